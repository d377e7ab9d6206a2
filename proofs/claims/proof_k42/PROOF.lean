import PyProof.Rows.All
import Wide.All
import OpenK.AllK
import Wide.FinOn
import PyProof.EqAt
import PyProof.EqKinds
import PyProof.TupleCall
import PyProof.ExcBaseAll.ValueError
import PyProof.ExcArgsOwn
import PyProof.ExcInit
import PyProof.InstStoreFacts
import Lean
import PySem.Challenge.RW_figurewheel_k42_every_and_some
set_option linter.all false
set_option Elab.async false
set_option maxRecDepth 100000
set_option maxHeartbeats 4000000
set_option bootstrap.genMatcherCode false
namespace L2
open PySem PySem.Spec PyProof.Rows
abbrev Key:=Sum Int Str
def keyIs:Key->Value->Bool
 | .inl k,v=>Value.isInt k v
 | .inr x,v=>Value.isStrOf x v
def keyH(w:World):Key->Int
 | .inl k=>hashInt k
 | .inr x=>hashStr w x
theorem ZaO:∀ {k:Key} {v:Value},keyIs k v=true->(∃ i t,k=Sum.inl i/\v=Value.int i t)\/(∃ x t,k=Sum.inr x/\v=Value.str x t)
 | .inl i,v,h=>by
  obtain⟨t,e⟩:=Value.isInt_shape (k:=i) (v:=v) h
  exact .inl ⟨i,t,rfl,e⟩
 | .inr x,v,h=>by
  obtain⟨t,e⟩:=Value.isStrOf_shape (x:=x) (v:=v) h
  exact .inr ⟨x,t,rfl,e⟩
theorem ZiC(i:Int)(t:Tok):keyIs (.inl i) (.int i t)=true:=by simp[keyIs,Value.isInt]
theorem ZiD(x:Str)(t:Tok):keyIs (.inr x) (.str x t)=true:=by simp[keyIs,Value.isStrOf]
theorem Znc(a b:Int):decide ((Sum.inl a:Key)=Sum.inl b)=(a == b):=by
 by_cases e:a=b
 ·subst e;simp
 ·have h:¬ (Sum.inl a:Key)=Sum.inl b:=λq=>e (Sum.inl.inj q)
  rw[decide_eq_false h]
  exact (beq_eq_false_iff_ne.mpr e).symm
theorem Znd(a b:Str):decide ((Sum.inr a:Key)=Sum.inr b)=decide (a=b):=by
 by_cases e:a=b
 ·subst e;simp
 ·have h:¬ (Sum.inr a:Key)=Sum.inr b:=λq=>e (Sum.inr.inj q)
  rw[decide_eq_false h,decide_eq_false e]
theorem Zne(a:Int)(b:Str):decide ((Sum.inl a:Key)=Sum.inr b)=false:=decide_eq_false (λq=>nomatch q)
theorem Znf(a:Str)(b:Int):decide ((Sum.inr a:Key)=Sum.inl b)=false:=decide_eq_false (λq=>nomatch q)
def mixKind(prog:Program)(w:World):PySem.KeyKind prog w Key where
 is:=keyIs
 hash:=keyH w
 inj:=λv a b ha hb=>by
  rcases ZaO ha with⟨i,t,rfl,rfl⟩|⟨x,t,rfl,rfl⟩
  ·rcases ZaO hb with⟨j,u,rfl,e⟩|⟨y,u,rfl,e⟩
   ·injection e with e1 _;rw[e1]
   ·exact nomatch e
  ·rcases ZaO hb with⟨j,u,rfl,e⟩|⟨y,u,rfl,e⟩
   ·exact nomatch e
   ·injection e with e1 _;rw[e1]
 byValue:=λk v h=>by
  rcases ZaO h with⟨i,t,rfl,rfl⟩|⟨x,t,rfl,rfl⟩<;>rfl
 pyHash:=λhv h=>by
  rcases ZaO hv with⟨i,t,rfl,rfl⟩|⟨x,t,rfl,rfl⟩
  ·exact wpAny_pyHash_int h
  ·exact wpAny_pyHash_str h
 eqBool:=λhu hv h=>by
  rcases ZaO hu with⟨i,t,rfl,rfl⟩|⟨x,t,rfl,rfl⟩
  ·rcases ZaO hv with⟨j,u,rfl,rfl⟩|⟨y,u,rfl,rfl⟩
   ·rw[Znc] at h;exact wpAny_eqBool_int h
   ·rw[Zne] at h;exact SeqAt.EqAt.int_str i t y u _ _ _ _ h
  ·rcases ZaO hv with⟨j,u,rfl,rfl⟩|⟨y,u,rfl,rfl⟩
   ·rw[Znf] at h;exact SeqAt.EqAt.str_int x t j u _ _ _ _ h
   ·rw[Znd] at h;exact wpAny_eqBool_str h
 «strs»:=λk x t v h=>by
  rcases ZaO h with⟨i,u,rfl,e⟩|⟨y,u,rfl,e⟩
  ·exact nomatch e
  ·injection e with e1 _
   subst e1
   cases v<;>rfl
theorem ZgC(prog:Program)(w:World)(i:Int)(t:Tok):(mixKind prog w).is (.inl i) (.int i t)=true:=ZiC i t
theorem ZgD(prog:Program)(w:World)(x:Str)(t:Tok):(mixKind prog w).is (.inr x) (.str x t)=true:=ZiD x t
end L2
namespace PySem
section
variable {prog:Program}{w:World}{KT:Type}[DecidableEq KT](kd:KeyKind prog w KT)
def PairAt(h:Heap)(z:KT×List KT)(a:Addr):Prop :=
 ∃ (ob:Obj) (its:Array Value) (c:Nat) (u:Value) (b:Addr),h.get? a=some ob/\ob.cls=.type "tuple" /\ ob.data=.seq its c/\its.toList=[u,.ref b]/\kd.is z.1 u=true/\IsTupleKey kd h z.2 b
def pairHash(z:KT×List KT):Int:=reduceHash (Builtin.Tuple.tupleHashOf [kd.hash z.1,tupleKeyHash kd z.2])
variable {kd}
theorem PairAt.tp{s:Shared}{z:KT×List KT}{a:Addr}(x:PairAt kd s.heap z a):s.TypeIs (.ref a) "tuple" :=
 let ⟨ob,_,_,_,_,e,hc,_⟩:=x;⟨ob,e,hc⟩
theorem PairAt.one{h:Heap}{a:Addr}{y z:KT×List KT}(hy:PairAt kd h y a)(hz:PairAt kd h z a):y=z:=by
 obtain⟨o1,i1,c1,u1,b1,e1,_,d1,l1,f1,g1⟩:=hy
 obtain⟨o2,i2,c2,u2,b2,e2,_,d2,l2,f2,g2⟩:=hz
 rw[e1] at e2
 cases e2
 rw[d1] at d2
 cases d2
 rw[l1] at l2
 cases l2
 exact Prod.ext (kd.inj _ _ _ f1 f2) (g1.inj g2)
theorem PairAt.stay{h h':Heap}{z:KT×List KT}{a d:Addr}{ob:Obj}{es ep}(x:PairAt kd h z a)(hd:h.get? d=some ob)(hx:ob.data=.dict es ep)(hs:Heap.SameBut d h h'):PairAt kd h' z a:=by
 obtain⟨o1,i1,c1,u1,b1,e1,k1,d1,l1,f1,g1⟩:=x
 have ne:a≠d:=λq=>by
  subst q
  rw[e1] at hd
  cases hd
  rw[d1] at hx
  cases hx
 exact⟨o1,i1,c1,u1,b1,(hs.2 a ne).trans e1,k1,d1,l1,f1,g1.keeps hd hx hs⟩
variable {A:Around}{E:Value->Shared->Prop}{s:Shared}
theorem ZiE{z:KT×List KT}{a:Addr}{Q:Int->Shared->Prop}(hv:A.units<cLine/\A.in1.units<cLine)(hz:PairAt kd s.heap z a)(q:Q (pairHash kd z) { s with toks:=s.toks+(z.2.length+3) }) :
  wpAny (model prog w) A (pyHash (.ref a)) Q E s:=by
 have tp:=hz.tp
 obtain⟨ob,its,c,u,b,e1,_,d1,l1,f1,g1⟩:=hz
 unfold pyHash
 unfold pyHashByItsType
 refine wpAny_bind (wpAny_cRoomFor_or (.inr hv.1) ?_)
 refine wpAny_bind (wpAny_specialOf tp F.slot_tuple_hash.lookup ?_)
 show wpAny _ A (if (some (Value.builtin "tuple.__hash__") == some Value.none)=true then _ else _) Q E s
 rw[if_neg (by rw[beq_builtin_none];exact Bool.false_ne_true)]
 refine wpAny_bind (wpAny_specialOf tp F.slot_tuple_hash.lookup ?_)
 show wpAny _ A (callSpecialIfBoundUnlessNone? (.ref a) "__hash__" _ >>= _) Q E s
 refine wpAny_bind (wpAny_callSpecialIfBoundUnlessNone?_slot tp F.slot_tuple_hash (wpAny_call_entry F.slot_tuple_hash tp F.entry_tuple_hash ?_ (F.args_tuple_hash_1 _)))
 show wpAny _ _ (Builtin.Tuple.tupleItemsOf (.ref a) >>= _) _ _ s
 refine wpAny_bind (wpAny_tupleItemsOf e1 d1 ?_)
 refine wpAny_bind ?_
 rw[<- Array.forIn_toList,l1]
 refine wpAny_forIn_list _
  (λrest (acc:Array Int) s'=>(rest=[u,.ref b]/\acc.toList=[]/\s'=s)\/(rest=[.ref b]/\acc.toList=[kd.hash z.1]/\s'={ s with toks:=s.toks+1 })\/(rest=[]/\acc.toList=[kd.hash z.1,tupleKeyHash kd z.2]/\s'={ s with toks:=s.toks+(z.2.length+2) }))
  _ ?_ ?_ _ _ (.inl ⟨rfl,rfl,rfl⟩)
 ·rintro x rest acc s' (⟨r1,r2,rfl⟩|⟨r1,r2,rfl⟩|⟨r1,_⟩)
  ·cases r1
   refine wpAny_bind (kd.pyHash f1 ?_)
   first
    | exact wpAny_pure (.inr (.inl ⟨rfl,by simp[r2],rfl⟩))
    | exact wpAny_bind (wpAny_pure (wpAny_pure (.inr (.inl ⟨rfl,by simp[r2],rfl⟩))))
  ·cases r1
   refine wpAny_bind (wpAny_pyHash_tuple hv.2 g1 ?_)
   first
    | exact wpAny_pure (.inr (.inr ⟨rfl,by simp[r2],by simp;omega⟩))
    | exact wpAny_bind (wpAny_pure (wpAny_pure (.inr (.inr ⟨rfl,by simp[r2],by simp;omega⟩))))
  ·cases r1
 ·rintro acc s' (⟨r1,_⟩|⟨r1,_⟩|⟨_,r2,rfl⟩)
  ·cases r1
  ·cases r1
  show wpAny _ _ (retInt (Builtin.Tuple.tupleHashOf acc.toList)) _ _ _
  rw[r2]
  refine wpAny_ret_mkInt ?_
  unfold pairHash reduceHash at q
  generalize Builtin.Tuple.tupleHashOf [kd.hash z.1,tupleKeyHash kd z.2]=hh at q
  show wpAny _ A (if (decide (-(2:Int) ^ 63<=hh) && decide (hh<2 ^ 63))=true then _ else _) Q E _
  split at q<;>rename_i hr
  ·rw[if_pos hr]
   exact wpAny_pure (by simpa [Nat.add_assoc] using q)
  ·rw[if_neg hr]
   exact wpAny_bind (wpAny_rule (wpAny_pure (by simpa [Nat.add_assoc] using q)))
theorem ZfO{y z:KT×List KT}{a b:Addr}{R:Fin->Shared->Prop}(hu:A.units<cLine)(hy:PairAt kd s.heap y a)(hz:PairAt kd s.heap z b)(q:R (.done (.ret (.bool (decide (y=z))))) s) :
  wpAny (model prog w) A (Builtin.«tuple.__eq__» ⟨[.ref a,.ref b],[]⟩) R E s:=by
 have tb:=hz.tp
 obtain⟨o1,i1,c1,u1,b1,e1,k1,d1,l1,f1,g1⟩:=hy
 obtain⟨o2,i2,c2,u2,b2,e2,k2,d2,l2,f2,g2⟩:=hz
 show wpAny _ A (isInstance (.ref b) (.type "tuple") >>= _) _ _ s
 refine wpAny_bind (wpAny_isInstance tb isSubtype_tuple_tuple ?_)
 simp only[Bool.not_true,Bool.false_eq_true,if_false]
 refine wpAny_bind (wpAny_tupleItemsOf e1 d1 ?_)
 refine wpAny_bind (wpAny_tupleItemsOf e2 d2 ?_)
 have zz:(i1.size == i2.size)=true:=by
  have a1:=congrArg List.length l1
  have a2:=congrArg List.length l2
  rw[Array.length_toList] at a1 a2
  rw[a1,a2];rfl
 refine wpAny_bind ?_
 rw[l1,l2]
 refine wpAny_forIn_list _
  (λrest r s'=>r.1=none/\s'=s/\(rest=[(u1,u2),(.ref b1,.ref b2)]\/(rest=[(.ref b1,.ref b2)]/\y.1=z.1)\/(rest=[]/\y=z)))
  _ ?_ ?_ _ _ ⟨rfl,rfl,.inl rfl⟩
 ·rintro x rest r s' ⟨hr,rfl,r1|⟨r1,ey⟩|⟨r1,_⟩⟩
  ·cases r1
   refine wpAny_bind (kd.eqBool (a:=y.1) (b:=z.1) f1 f2 ?_)
   by_cases hk:y.1=z.1
   ·rw[decide_eq_true hk]
    simp only[Bool.not_true,Bool.false_eq_true,if_false]
    exact wpAny_pure ⟨rfl,rfl,.inr (.inl ⟨by trivial,hk⟩)⟩
   ·rw[decide_eq_false hk]
    simp only[Bool.not_false,if_true]
    rw[decide_eq_false (λe=>hk (by rw[e]))] at q
    exact wpAny_bind (wpAny_pure (wpAny_pure (wpAny_pure q)))
  ·cases r1
   refine wpAny_bind (wpAny_eqBool_tuple hu g1 g2 ?_)
   by_cases hk:y.2=z.2
   ·rw[decide_eq_true hk]
    simp only[Bool.not_true,Bool.false_eq_true,if_false]
    exact wpAny_pure ⟨rfl,rfl,.inr (.inr ⟨by trivial,Prod.ext ey hk⟩)⟩
   ·rw[decide_eq_false hk]
    simp only[Bool.not_false,if_true]
    rw[decide_eq_false (λe=>hk (by rw[e]))] at q
    exact wpAny_bind (wpAny_pure (wpAny_pure (wpAny_pure q)))
  ·cases r1
 ·rintro⟨r1,r2⟩ s' ⟨hr,rfl,z1|⟨z1,_⟩|⟨_,ey⟩⟩
  ·cases z1
  ·cases z1
  simp only at hr
  subst hr
  refine wpAny_pure ?_
  show R (.done (.ret (.bool (i1.size == i2.size)))) s'
  rw[zz]
  rw[decide_eq_true ey] at q
  exact q
theorem ZlR{y z:KT×List KT}{a b:Addr}{Q:Bool->Shared->Prop}(hv:A.units<cLine/\A.in1.units<cLine)(hy:PairAt kd s.heap y a)(hz:PairAt kd s.heap z b)(q:Q (decide (y=z)) s) :
  wpAny (model prog w) A (eqBool (.ref a) (.ref b)) Q E s:=by
 unfold eqBool
 try with_reducible refine wpAny_holding ?_
 show wpAny _ A (if (Value.ref a == Value.ref b)=true then _ else _) Q E s
 by_cases ab:(Value.ref a == Value.ref b)=true
 ·rw[if_pos ab]
  have e:a=b:=by have:=eq_of_beq ab;injection this
  subst e
  have e2:=hy.one hz
  subst e2
  exact wpAny_bind (wpAny_rule (wpAny_pure (by simpa using q)))
 ·rw[if_neg ab]
  exact wpAny_bind (wpAny_richCompare_same_room (op:=.Eq) hy.tp hz.tp F.slot_tuple_eq (wpAny_call_entry F.slot_tuple_eq hy.tp F.entry_tuple_eq (ZfO hv.2 hy hz ⟨_,rfl,(λe=>nomatch e),wpAny_truthy_bool q⟩) (F.args_tuple_eq_2 _ _)) hv.1)
theorem Zh7{ks:List KT}{a:Addr}{m:Nat}{Q:Bool->Shared->Prop}(hk:IsTupleKey kd s.heap ks a)(q:Q true s):wpAny (model prog w) A (eqIsQuiet (m+1) (.ref a)) Q E s:=by
 have tp:=hk.typeIs
 obtain⟨o1,i1,c1,e1,_,d1,g1⟩:=hk
 unfold eqIsQuiet
 refine wpAny_bind (wpAny_specialOf tp F.slot_tuple_eq.lookup ?_)
 show wpAny _ A (isInstance (.ref a) (.type "tuple") >>= _) _ _ s
 refine wpAny_bind (wpAny_isInstance tp isSubtype_tuple_tuple ?_)
 simp only[Bool.not_true,Bool.false_eq_true,if_false]
 refine wpAny_bind (wpAny_seqItems e1 d1 ?_)
 refine wpAny_bind ?_
 show wpAny _ A (forIn i1 _ _) _ _ s
 rw[<- Array.forIn_toList]
 refine wpAny_forIn_list _ (λrest r s'=>r.1=none/\s'=s/\∀ v∈rest,carriedByValue v=true) _ ?_ ?_ _ _ ⟨rfl,rfl,g1.byValue⟩
 ·rintro x rest r s' ⟨hr,rfl,al⟩
  rw[eqIsQuiet_byValue _ (al x (.head _))]
  refine wpAny_bind (wpAny_pure ?_)
  simp only[Bool.not_true,Bool.false_eq_true,if_false]
  exact wpAny_pure ⟨rfl,rfl,λv hv=>al v (.tail _ hv)⟩
 ·rintro⟨r1,r2⟩ s' ⟨hr,rfl,_⟩
  simp only at hr
  subst hr
  exact wpAny_pure q
theorem Zh8{z:KT×List KT}{a:Addr}{Q:Bool->Shared->Prop}(hz:PairAt kd s.heap z a)(q:Q true s):wpAny (model prog w) A (eqIsQuiet 8 (.ref a)) Q E s:=by
 have tp:=hz.tp
 obtain⟨o1,i1,c1,u1,b1,e1,_,d1,l1,f1,g1⟩:=hz
 unfold eqIsQuiet
 refine wpAny_bind (wpAny_specialOf tp F.slot_tuple_eq.lookup ?_)
 show wpAny _ A (isInstance (.ref a) (.type "tuple") >>= _) _ _ s
 refine wpAny_bind (wpAny_isInstance tp isSubtype_tuple_tuple ?_)
 simp only[Bool.not_true,Bool.false_eq_true,if_false]
 refine wpAny_bind (wpAny_seqItems e1 d1 ?_)
 refine wpAny_bind ?_
 show wpAny _ A (forIn i1 _ _) _ _ s
 rw[<- Array.forIn_toList,l1]
 refine wpAny_forIn_list _ (λrest r s'=>r.1=none/\s'=s/\(rest=[u1,.ref b1]\/rest=[.ref b1]\/rest=[])) _ ?_ ?_ _ _ ⟨rfl,rfl,.inl rfl⟩
 ·rintro x rest r s' ⟨hr,rfl,r1|r1|r1⟩
  ·cases r1
   rw[eqIsQuiet_byValue _ (kd.byValue _ _ f1)]
   refine wpAny_bind (wpAny_pure ?_)
   simp only[Bool.not_true,Bool.false_eq_true,if_false]
   refine wpAny_pure ⟨rfl,rfl,?_⟩
   exact .inr (.inl (by trivial))
  ·cases r1
   refine wpAny_bind (Zh7 g1 ?_)
   simp only[Bool.not_true,Bool.false_eq_true,if_false]
   refine wpAny_pure ⟨rfl,rfl,?_⟩
   exact .inr (.inr (by trivial))
  ·cases r1
 ·rintro⟨r1,r2⟩ s' ⟨hr,rfl,_⟩
  simp only at hr
  subst hr
  exact wpAny_pure q
end
def pairKind{prog:Program}{w:World}{KT:Type}[DecidableEq KT](kd:KeyKind prog w KT):HeapKind prog w (KT×List KT) where
 is:=PairAt kd
 hash:=pairHash kd
 draws:=λz=>z.2.length+3
 room:=λA=>A.units<cLine/\A.in1.units<cLine
 inj:=PairAt.one
 keeps:=PairAt.stay
 pyHash:=ZiE
 eqBool:=ZlR
 quiet:=Zh8
end PySem
namespace L2
open PySem PySem.Spec PyProof.Rows
inductive V where
 | non|bl (b:Bool)|int (i:Int)|str (x:Str)|byt (b:Array UInt8)|flt (b:UInt64)|ref (a:Addr)|ty (n:String)
 deriving DecidableEq
def RelV:V->Value->Prop
 | .non,u=>u=Value.none
 | .bl b,u=>u=Value.bool b
 | .int i,u=>∃ t,u=Value.int i t
 | .str x,u=>∃ t,u=Value.str x t
 | .byt b,u=>∃ t,u=Value.bytes b t
 | .flt b,u=>∃ t,u=Value.float b t
 | .ref a,u=>u=Value.ref a
 | .ty n,u=>u=Value.type n
abbrev Vals:List V->List Value->Prop:=Paired RelV
theorem Vals.length{xs:List V}{us:List Value}(r:Vals xs us):xs.length=us.length:=Paired.length r
theorem Vals.get:∀ {xs:List V} {us:List Value} {i:Nat} {x:V},Vals xs us->xs[i]?=some x->∃ u,us[i]?=some u/\RelV x u
 | _,_,_,_,.nil,e=>by simp at e
 | _,_,0,_,.cons r _,e=>by simp at e;subst e;exact⟨_,rfl,r⟩
 | _,_,i+1,x,.cons _ t,e=>by
  obtain⟨u,h1,h2⟩:=Vals.get (i:=i) (x:=x) t (by simpa using e)
  exact⟨u,by simpa using h1,h2⟩
theorem Vals.set{x:V}{u:Value}(r:RelV x u):∀ {xs:List V} {us:List Value} (i:Nat),Vals xs us->Vals (xs.set i x) (us.set i u)
 | _,_,_,.nil=>.nil
 | _,_,0,.cons _ t=>.cons r t
 | _,_,i+1,.cons q t=>.cons q (Vals.set r i t)
theorem Vals.append:∀ {xs ys:List V} {us ws:List Value},Vals xs us->Vals ys ws->Vals (xs++ys) (us++ws)
 | _,_,_,_,.nil,s=>s
 | _,_,_,_,.cons r t,s=>.cons r (Vals.append t s)
def RelO:Option V->Option Value->Prop
 | some v,some u=>RelV v u
 | none,none=>True
 | _,_=>False
def KV{κ:Type}:List (κ×V)->List (κ×Value)->Prop:=Paired λ(p:κ×V) (q:κ×Value)=>p.1=q.1/\RelV p.2 q.2
def kV:Key->V
 | .inl i=>.int i
 | .inr x=>.str x
inductive HO where
 | lst (xs:List V)
 | tup (xs:List V)
 | dK (kvs:List (Key×V))|dT (kvs:List (List Key×V))
 | dN (kvs:List ((Key×List Key)×V))
 | set (S:Int->Bool) (n:Nat)
 | ins (C dx:Addr) (fs:List (Str×V))
 | own (x:Addr)
 | xd (fs:List (Str×V))
 | met (f x:Addr)
 | rng (lo hi:Int)
 | frz (o:Obj) (u:HO)
 | tbl (ps:Array Value)
 | tbq (q:Nat->Nat->Str)
 | ext (φ:Heap->Prop)
abbrev Hp:=Addr->Option HO
def CodeO(o:Obj)(q:Str):Prop:=∃ vs t,o.data=.fields vs/\vs[1]?=some (.str q t)
def IsTupN(h:Heap)(a:Addr)(items:Array Value):Prop:=∃ o,h.get? a=some o/\o.cls=.type "tuple" /\ (∃ n,o.data=.seq items n)/\o.dict=none
theorem IsTupN.is{h:Heap}{a:Addr}{items:Array Value}(x:IsTupN h a items):IsTup h a items:=let ⟨o,e,c,d,_⟩:=x;⟨o,e,c,d⟩
instance {h:Heap} {a:Addr} {items:Array Value}:CoeOut (IsTupN h a items) (IsTup h a items):=⟨IsTupN.is⟩
theorem IsTupN.new(h:Heap)(items:Array Value):IsTupN (h.push { cls:=.type "tuple",data:=.seq items }) h.objs.size items:=⟨_,Heap.get?_push_size _ rfl,rfl,⟨_,rfl⟩,rfl⟩
def upd(H:Hp)(a:Addr)(o:HO):Hp:=λb=>if b=a then some o else H b
theorem Zak{H:Hp}{a:Addr}{o:HO}:upd H a o a=some o:=by unfold upd;rw[if_pos rfl]
theorem Zah{H:Hp}{a b:Addr}{o:HO}(h:b≠a):upd H a o b=H b:=by unfold upd;rw[if_neg h]
theorem Zdu{H:Hp}{a:Addr}{o u:HO}:upd (upd H a o) a u=upd H a u:=by
 funext b;unfold upd;split<;>rfl
theorem ZfP{H:Hp}{a b:Addr}{o u:HO}(h:H a=some o)(h':H b=some u)(d:o≠u):a≠b:=by
 intro e;subst e;rw[h] at h';exact d (Option.some.inj h')
theorem Zan{H:Hp}{a b:Addr}{o:HO}(h:H a=some o)(h':H b=none):a≠b:=by
 intro e;subst e;rw[h] at h';cases h'
section
variable (P:Program)(w:World)
def ObjOk(H:Hp)(h:Heap)(a:Addr):HO->Prop
 | .lst xs=>xs.length<=sizeLine/\∃ (its:List Value) (n:Nat),Vals xs its/\h.get? a=some { cls:=.type "list",data:=.seq its.toArray n }
 | .tup xs=>xs.length<=sizeLine/\∃ its:List Value,Vals xs its/\IsTupN h a its.toArray
 | .dK kvs=>kvs.length<=sizeLine/\(a == sysModules)=false/\∃ vs,KV kvs vs/\h.DictOf (mixKind P w) a vs
 | .dT kvs=>kvs.length<=sizeLine/\(a == sysModules)=false/\∃ xs:List (List Key×Addr×Value),
   Paired (λ(p:List Key×V) (q:List Key×Addr×Value)=>p.1=q.1/\H q.2.1=some (.tup (p.1.map kV))/\RelV p.2 q.2.2) kvs xs /\
   ∃ o es ep,h.get? a=some o/\o.ExactDict/\o.data=.dict es ep/\es.toList=xs.map (entryOfKey (tupleKind (mixKind P w)))/\(xs.map (·.1)).Nodup
 | .dN kvs=>kvs.length<=sizeLine/\(a == sysModules)=false/\∃ xs:List ((Key×List Key)×Addr×Value),
   Paired (λ(p:(Key×List Key)×V) (q:(Key×List Key)×Addr×Value)=>p.1=q.1/\(∃ b,H q.2.1=some (.tup [kV p.1.1,.ref b])/\H b=some (.tup (p.1.2.map kV)))/\RelV p.2 q.2.2) kvs xs /\
   ∃ o es ep,h.get? a=some o/\o.ExactDict/\o.data=.dict es ep/\es.toList=xs.map (entryOfKey (pairKind (mixKind P w)))/\(xs.map (·.1)).Nodup
 | .set S n=>h.SetOf (intKind P w) a S n
 | .ins C dx fs=>H dx=some (.own a)/\fs.length<=1000/\dx≠a/\h.get? a=some (PySem.W.instObj C dx) /\
   ∃ mA,h.Ns1 dx mA/\(∀ f,RelO (fs.lookup f) (mA f))/\PySem.Within mA (fs.map (·.1))
 | .own _=>∃ o,h.get? a=some o
 | .xd fs=>∃ mA,h.Ns1 a mA/\∀ f,RelO (fs.lookup f) (mA f)
 | .rng lo hi=>∃ t u v,h.get? a=some { cls:=.type "range",data:=.fields #[.int lo t,.int hi u,.int 1 v] }
 | .frz o u=>h.get? a=some o/\ObjOk H h a u
 | .tbl ps=>h.get? a=some { cls:=.none,data:=.fields ps }
 | .tbq q=>∃ ps,h.get? a=some { cls:=.none,data:=.fields ps }/\TriplesOk ps.toList/\∀ pos cv,codeAmong pos ps.toList=some cv->∃ c o,cv=.ref c/\H c=some (.frz o (.own a))/\CodeO o (q pos.line pos.col)
 | .met f x=>h.get? a=some (PySem.W.methodObj (.ref f) (.ref x))
 | .ext φ=>φ h/\(∃ o,h.get? a=some o)/\∀ h1 h2:Heap,φ h1->(∀ o,h1.get? a=some o->h2.get? a=some o)->φ h2
def HOk(H:Hp)(h:Heap):Prop:=∀ a o,H a=some o->ObjOk P w H h a o
end
section
variable {P:Program}{w:World}{H H':Hp}{h h':Heap}{a:Addr}{o:HO}
theorem ObjOk.lt(x:ObjOk P w H h a o):a<h.objs.size:=by
 cases o with
 | lst xs=>obtain⟨_,_,_,_,e⟩:=x;exact Heap.lt_size e
 | tup xs=>obtain⟨_,_,_,p⟩:=x;exact (IsTupN.is p).lt
 | dK kvs=>obtain⟨_,_,_,_,o,_,_,e,_⟩:=x;exact Heap.lt_size e
 | dT kvs=>obtain⟨_,_,_,_,o,_,_,e,_⟩:=x;exact Heap.lt_size e
 | dN kvs=>obtain⟨_,_,_,_,o,_,_,e,_⟩:=x;exact Heap.lt_size e
 | set S n=>obtain⟨o,_,_,_,e,_⟩:=x;exact Heap.lt_size e
 | ins C dx fs=>obtain⟨_,_,_,e,_⟩:=x;exact Heap.lt_size e
 | own y=>obtain⟨_,e⟩:=x;exact Heap.lt_size e
 | xd fs=>obtain⟨_,⟨_,_,_,e,_⟩,_⟩:=x;exact Heap.lt_size e
 | rng lo hi=>obtain⟨_,_,_,e⟩:=x;exact Heap.lt_size e
 | frz ob u=>obtain⟨e,_⟩:=x;exact Heap.lt_size e
 | tbl ps=>exact Heap.lt_size (show h.get? a=some _ from x)
 | tbq q=>obtain⟨_,e,_⟩:=x;exact Heap.lt_size e
 | met f y=>exact Heap.lt_size (show h.get? a=some _ from x)
 | ext φ=>obtain⟨_,⟨_,e⟩,_⟩:=x;exact Heap.lt_size e
theorem Paired.mapP{α β:Type}{F G:α->β->Prop}:∀ {l₁:List α} {l₂:List β},Paired F l₁ l₂->(∀ a b,F a b->G a b)->Paired G l₁ l₂
 | _,_,.nil,_=>.nil
 | _,_,.cons r t,f=>.cons (f _ _ r) (Paired.mapP t f)
theorem ObjOk.stay(x:ObjOk P w H h a o)(k:∀ b u,(b=a\/H b=some (.own a))->h.get? b=some u->h'.get? b=some u)
  (ho:∀ b,H b=some (.own a)->H' b=some (.own a)) (ht:∀ b xs,H b=some (.tup xs)->H' b=some (.tup xs))
  (hf:∀ b o,H b=some (.frz o (.own a))->H' b=some (.frz o (.own a)):=by first|exact λ_ _ q=>q|(intro b o q;rw[Zah (Zan q (by assumption))];exact q)):ObjOk P w H' h' a o:=by
 induction o with
 | lst xs=>obtain⟨z,its,n,r,e⟩:=x;exact⟨z,its,n,r,k _ _ (.inl rfl) e⟩
 | tup xs=>obtain⟨z,its,r,ob,e,c⟩:=x;exact⟨z,its,r,ob,k _ _ (.inl rfl) e,c⟩
 | dK kvs=>obtain⟨z,y,vs,r,ob,es,ep,e,c⟩:=x;exact⟨z,y,vs,r,ob,es,ep,k _ _ (.inl rfl) e,c⟩
 | dT kvs =>
  obtain⟨z,y,xs,r,ob,es,ep,e,c⟩:=x
  exact⟨z,y,xs,Paired.mapP r λp q z=>⟨z.1,ht _ _ z.2.1,z.2.2⟩,ob,es,ep,k _ _ (.inl rfl) e,c⟩
 | dN kvs =>
  obtain⟨z,y,xs,r,ob,es,ep,e,c⟩:=x
  exact⟨z,y,xs,Paired.mapP r λp q z=>⟨z.1,let ⟨b,z1,z2⟩:=z.2.1;⟨b,ht _ _ z1,ht _ _ z2⟩,z.2.2⟩,ob,es,ep,k _ _ (.inl rfl) e,c⟩
 | set S n=>obtain⟨ob,es,ep,t,e,c⟩:=x;exact⟨ob,es,ep,t,k _ _ (.inl rfl) e,c⟩
 | ins C dx fs =>
  obtain⟨d,z,ne,e,mA,⟨od,es,ep,e2,c⟩,r⟩:=x
  exact⟨ho _ d,z,ne,k _ _ (.inl rfl) e,mA,⟨od,es,ep,k _ _ (.inr d) e2,c⟩,r⟩
 | own y=>obtain⟨ob,e⟩:=x;exact⟨ob,k _ _ (.inl rfl) e⟩
 | xd fs=>obtain⟨mA,⟨od,es,ep,e,c⟩,r⟩:=x;exact⟨mA,⟨od,es,ep,k _ _ (.inl rfl) e,c⟩,r⟩
 | rng lo hi=>obtain⟨t,u,v,e⟩:=x;exact⟨t,u,v,k _ _ (.inl rfl) e⟩
 | frz ob u ih=>obtain⟨e,q⟩:=x;exact⟨k _ _ (.inl rfl) e,ih q⟩
 | tbq q =>
  obtain⟨ps,e,t,r⟩:=x
  exact⟨ps,k _ _ (.inl rfl) e,t,λpos cv z=>let ⟨c,o,e1,e2,e3⟩:=r pos cv z;⟨c,o,e1,hf _ _ e2,e3⟩⟩
 | tbl ps =>
  have e:h.get? a=some { cls:=.none,data:=.fields ps }:=x
  show h'.get? a=some { cls:=.none,data:=.fields ps }
  exact k a _ (.inl rfl) e
 | met f y =>
  have e:h.get? a=some (PySem.W.methodObj (.ref f) (.ref y)):=x
  show h'.get? a=some (PySem.W.methodObj (.ref f) (.ref y))
  exact k a _ (.inl rfl) e
 | ext φ=>obtain⟨p,⟨o,e⟩,st⟩:=x;exact⟨st _ _ p λo q=>k _ _ (.inl rfl) q,⟨o,k _ _ (.inl rfl) e⟩,st⟩
theorem HOk.lt(x:HOk P w H h)(e:H a=some o):a<h.objs.size:=(x a o e).lt
theorem HOk.fresh(x:HOk P w H h)(e:h.objs.size<=a):H a=none:=by
 cases q:H a with
 | none=>rfl
 | some u=>exact absurd (Nat.lt_of_lt_of_le (x.lt q) e) (Nat.lt_irrefl _)
theorem HOk.kept(x:HOk P w H h)(k:∀ b u,h.get? b=some u->h'.get? b=some u):HOk P w H h':=λa o e =>
 (x a o e).stay (λb u _ q=>k b u q) (λ_ q=>q) λ_ _ q=>q
theorem HOk.laid(x:HOk P w H h)(k:∀ b u,h.get? b=some u->h'.get? b=some u)(hp:h.objs.size<=a)(new:ObjOk P w (upd H a o) h' a o):HOk P w (upd H a o) h':=λb u e=>by
 have hn:=x.fresh hp
 by_cases hb:b=a
 ·subst hb;rw[Zak] at e;cases e;exact new
 ·rw[Zah hb] at e
  exact (x b u e).stay (λc v _ q=>k c v q) (λc q=>by rw[Zah (Zan q hn)];exact q) λc xs q=>by rw[Zah (Zan q hn)];exact q
end
def Rd(H:Hp)(a:Addr)(u:HO):Prop:=H a=some u\/∃ o,H a=some (.frz o u)
theorem Rd.ok{P:Program}{w:World}{H:Hp}{h:Heap}{a:Addr}{u:HO}(r:Rd H a u)(x:HOk P w H h):ObjOk P w H h a u:=by
 rcases r with r|⟨o,r⟩
 ·exact x a u r
 ·obtain⟨_,q⟩:=x a _ r
  exact q
def Mut:Option HO->Prop
 | some (.lst _)=>True
 | some (.dK _)=>True
 | some (.dT _)=>True
 | some (.dN _)=>True
 | some (.set _ _)=>True
 | some (.ins _ _ _)=>True
 | some (.ext _)=>True
 | _=>False
section
variable {P:Program}{w:World}{H:Hp}{h h':Heap}{x e:Addr}{o':HO}
theorem HOk.write(ok:HOk P w H h)(mu:Mut (H x))(he:e=x\/H e=some (.own x))(k:∀ b u,b≠e->h.get? b=some u->h'.get? b=some u)(heo:∃ u,h'.get? e=some u)
  (new:ObjOk P w (upd H x o') h' x o'):HOk P w (upd H x o') h':=λb u q=>by
 have nown:∀ c y,H c=some (.own y)->c≠x:=λc y r z=>by subst z;rw[r] at mu;exact mu
 have ntup:∀ c xs,H c=some (.tup xs)->c≠x:=λc xs r z=>by subst z;rw[r] at mu;exact mu
 by_cases hb:b=x
 ·subst hb;rw[Zak] at q;cases q;exact new
 ·rw[Zah hb] at q
  by_cases hbe:b=e
  ·have q':H b=some (.own x):=by
    rcases he with z|z
    ·exact absurd (hbe.trans z) hb
    ·rw[hbe];exact z
   rw[q] at q';cases q'
   obtain⟨v,hv⟩:=heo
   exact⟨v,by rw[hbe];exact hv⟩
  ·refine (ok b u q).stay (λc v hc r=>k c v ?_ r) (λc r=>by rw[Zah (nown c b r)];exact r) (λc xs r=>by rw[Zah (ntup c xs r)];exact r) (λc o r=>by rw[Zah (λz=>by subst z;rw[r] at mu;exact mu)];exact r)
   rcases hc with rfl|hc
   ·exact hbe
   ·rintro rfl
    rcases he with z|z
    ·exact nown c b hc z
    ·rw[hc] at z;cases z;exact hb rfl
end
structure Un(fs ex:List Addr)(H H':Hp)(h h':Heap):Prop where
 keep:∀ b o,h.get? b=some o->H b=none->b∉fs->b∉ex->h'.get? b=some o
 slot:∀ b o,h.get? b=some o->H b=none->b∈fs->b∉ex->∃ sl,h'.get? b=some { o with slots:=sl }
 free:∀ b o,h.get? b=some o->H b=none->b∉ex->H' b=none
 there:∀ b o,h.get? b=some o->b∉ex->∃ o',h'.get? b=some o'
 tups:∀ b xs,H b=some (.tup xs)->H' b=some (.tup xs)
 frzs:∀ b o u,H b=some (.frz o u)->H' b=some (.frz o u)
 tbls:∀ b ps,H b=some (.tbl ps)->∃ more,H' b=some (.tbl (ps++more))
section
variable {fs ex:List Addr}{H H1:Hp}{h h1 h':Heap}{a x e:Addr}{o:HO}
theorem Un.any(u:Un fs ex H H1 h h1){b:Addr}{ob:Obj}(q:h.get? b=some ob)(n:H b=none)(hx:b∉ex):∃ sl,h1.get? b=some { ob with slots:=sl }:=by
 by_cases hb:b∈fs
 ·exact u.slot b ob q n hb hx
 ·exact⟨ob.slots,u.keep b ob q n hb hx⟩
theorem Un.kept(k:∀ b u,h.get? b=some u->h'.get? b=some u):Un fs ex H H h h' :=
 ⟨λb ob q _ _ _=>k b ob q,λb ob q _ _ _=>⟨ob.slots,k b ob q⟩,λ_ _ _ n _=>n,λb ob q _=>⟨ob,k b ob q⟩,λ_ _ q=>q,λ_ _ _ q=>q,λ_ ps q=>⟨#[],by rw[q];simp⟩⟩
theorem Un.refl:Un fs ex H H h h:=Un.kept λ_ _ q=>q
theorem Un.laid(k:∀ b u,h.get? b=some u->h'.get? b=some u)(hp:h.objs.size<=a)(hn:H a=none):Un fs ex H (upd H a o) h h' where
 keep:=λb u q _ _ _=>k b u q
 slot:=λb u q _ _ _=>⟨u.slots,k b u q⟩
 free:=λb u q n _=>by rw[Zah (Nat.ne_of_lt (Nat.lt_of_lt_of_le (Heap.lt_size q) hp))];exact n
 there:=λb u q _=>⟨u,k b u q⟩
 tups:=λb xs q=>by rw[Zah (Zan q hn)];exact q
 frzs:=λb u xs q=>by rw[Zah (Zan q hn)];exact q
 tbls:=λb ps q=>⟨#[],by rw[Zah (Zan q hn),q];simp⟩
theorem Un.write(mu:Mut (H x))(he:e=x\/H e=some (.own x))(k:∀ b u,b≠e->h.get? b=some u->h'.get? b=some u)(heo:∃ u,h'.get? e=some u):Un fs ex H (upd H x o) h h':=by
 have hx:∀ b,H b=none->b≠x:=λb n z=>by subst z;rw[n] at mu;exact mu
 have hb:∀ b,H b=none->b≠e:=λb n z=>by
  subst z
  rcases he with r|r
  ·exact hx b n r
  ·rw[n] at r;cases r
 have hm:∀ b u,H b=some u->¬ Mut (some u)->b≠x:=λb u q nm z=>by subst z;rw[q] at mu;exact nm mu
 refine⟨λb u q n _ _=>k b u (hb b n) q,λb u q n _ _=>⟨u.slots,k b u (hb b n) q⟩,λb u q n _=>by rw[Zah (hx b n)];exact n,λb u q _=>?_,
  λb xs q=>by rw[Zah (hm b _ q λz=>z)];exact q,λb u xs q=>by rw[Zah (hm b _ q λz=>z)];exact q,λb ps q=>⟨#[],by rw[Zah (hm b _ q λz=>z),q];simp⟩⟩
 by_cases hbe:b=e
 ·subst hbe;exact heo
 ·exact⟨u,k b u hbe q⟩
end
def trk(h:Heap)(H:Hp):List Addr:=(List.range h.objs.size).filter λa=>(H a).isSome
def hidT(h:Heap)(H:Hp):Heap:=PySem.W.hideAll h (trk h H)
theorem ZiF(h:Heap)(H:Hp):(hidT h H).objs.size=h.objs.size:=PySem.W.hideAll_size _ _
theorem Ze6{h:Heap}{H:Hp}{b:Addr}{o:Obj}(e:h.get? b=some o)(n:H b=none):(hidT h H).get? b=some o :=
 PySem.W.hideAll_get _ e λhm=>by
  have q:(H b).isSome=true:=(List.mem_filter.mp hm).2
  rw[n] at q;simp at q
theorem ZlS{h:Heap}{H:Hp}{b:Addr}{o:Obj}(e:(hidT h H).get? b=some o):h.get? b=some o/\H b=none:=by
 have e':h.get? b=some o:=PySem.W.of_hideAll (trk h H) e
 refine⟨e',?_⟩
 cases q:H b with
 | none=>rfl
 | some x =>
  have hm:b∈trk h H:=List.mem_filter.mpr ⟨List.mem_range.mpr (Heap.lt_size e'),by simp[q]⟩
  have z:(hidT h H).get? b=none:=PySem.W.hideAll_none (trk h H) hm
  rw[z] at e;cases e
end L2
namespace L2
open PySem PySem.Spec PyProof.Rows
structure Mod(K:W.Frag)(mg:Str->Option Value)(base:Heap):Prop where
 kin:K.In base
 glob:base.Ns mainGlobals mg
 blt:∃ mb,base.Ns builtinsNs mb/\∀ x:Str,x ≠ "__name__" -> mb x=bootBuiltins x
 nolimit:base.NoLimit
structure Cx where
 prog:Program
 w:World
 K:W.Frag
 mg:Str->Option Value
 base:Heap
 A:Around
 N:List Str
 s₀:Shared
 H₀:Hp
 env:Env
 outer:List Env
 stack:List Env
 ex:List Addr
 fn:Str->Bool
 calm:Bool
 pn:List (Addr×Obj)
 xe:Value->Shared->Prop
def frs(l:List Env):List Addr:=l.filterMap (·.frame)
abbrev Cx.fs(X:Cx):List Addr:=frs X.outer
def Vis(sc:Scope)(x:Str):Prop:=sc.names.lookup x=some .local\/sc.names.lookup x=some .cell\/sc.names.lookup x=some .free
def Loc(sc:Scope)(x:Str):Prop:=sc.names.lookup x=some .local\/sc.names.lookup x=some .cell
def Look(env:Env)(h:Heap)(m:Str->Option Value)(x:Str)(u:Value):Prop :=
 (env.kindOf x=some .local/\m x=some u)\/((env.kindOf x=some .cell\/env.kindOf x=some .free)/\∃ c,env.cells.lookup x=some c/\h.IsCell c (some u))
structure Cx.Ok(X:Cx):Prop where
 mod:Mod X.K X.mg X.base
 kind:X.env.scope.kind=.function
 glob:X.env.globals=mainGlobals
 blt:X.env.builtins=builtinsNs
 above:X.s₀.heap.objs.size<=X.env.locals
 inj:∀ x y c,X.env.cells.lookup x=some c->X.env.cells.lookup y=some c->x=y
 has:∀ x,(X.env.kindOf x=some .cell\/X.env.kindOf x=some .free)->∃ c,X.env.cells.lookup x=some c
 cab:∀ x c,X.fn x=true->X.env.cells.lookup x=some c->X.s₀.heap.objs.size<=c
 hd:X.calm=true->X.A.handled=none
 frames:X.A.frames=some X.stack
 stk:X.stack=X.outer\/(X.stack=X.env::X.outer/\X.env.frame=some X.env.locals)
 exf:∀ b∈X.ex,b≠X.env.locals/\∀ x c,X.env.cells.lookup x=some c->c≠b
 bs:∀ b o,X.base.get? b=some o->X.s₀.heap.get? b=some o/\X.H₀ b=none
 bsz:X.base.objs.size<=X.s₀.heap.objs.size
 noex:∀ b o,X.base.get? b=some o->b∉X.ex
 exfs:∀ b∈X.ex,b∉X.fs
 funs:X.s₀.heap.FunFrames X.base X.outer
 frf:∀ b∈X.fs,X.H₀ b=none
structure Inv(X:Cx)(pins:List (Addr×Obj))(σ:List (Option V))(H:Hp)(s:Shared):Prop where
 ok:X.Ok
 os:s.os=X.s₀.os
 bare:AllBare s.gens
 base:Un X.fs X.ex X.H₀ H X.s₀.heap s.heap
 loc:∃ m,s.heap.Ns X.env.locals m/\∀ (i:Nat) (x:Str) (v:V),X.N[i]?=some x->σ[i]?=some (some v)->Vis X.env.scope x->∃ u,RelV v u/\Look X.env s.heap m x u
 cell:∀ x c,X.env.cells.lookup x=some c->∃ v,s.heap.IsCell c v
 free:H X.env.locals=none
 freeC:∀ x c,X.env.cells.lookup x=some c->H c=none
 pin:∀ p∈X.pn++pins,s.heap.get? p.1=some p.2/\H p.1=none/\p.1≠X.env.locals/\p.1∉X.fs/\∀ v,p.2.data≠.cell v
 hok:HOk X.prog X.w H s.heap
 len:σ.length=X.N.length
section
variable {X:Cx}{pins:List (Addr×Obj)}{σ:List (Option V)}{H H':Hp}{s:Shared}{h':Heap}
theorem Cx.Ok.nofr(ok:X.Ok){b:Addr}{o:Obj}(e:X.base.get? b=some o):b∉X.fs:=λhb=>by
 have:=(ok.funs.mem hb).1
 rw[e] at this;cases this
theorem Inv.bs(I:Inv X pins σ H s):∀ b o,X.base.get? b=some o->s.heap.get? b=some o/\H b=none:=λb o e =>
 ⟨I.base.keep b o (I.ok.bs b o e).1 (I.ok.bs b o e).2 (I.ok.nofr e) (I.ok.noex b o e),I.base.free b o (I.ok.bs b o e).1 (I.ok.bs b o e).2 (I.ok.noex b o e)⟩
theorem Inv.bk(I:Inv X pins σ H s):∀ b o,X.base.get? b=some o->s.heap.get? b=some o:=λb o e=>(I.bs b o e).1
theorem Inv.mod(I:Inv X pins σ H s):Mod X.K X.mg X.base:=I.ok.mod
theorem Inv.kIn(I:Inv X pins σ H s):X.K.In s.heap:=I.ok.mod.kin.keeps I.bk
theorem Inv.nolimit(I:Inv X pins σ H s):s.heap.NoLimit:=I.ok.mod.nolimit.keeps I.bk
theorem Inv.lt(I:Inv X pins σ H s):X.env.locals<s.heap.objs.size:=let ⟨_,hn,_⟩:=I.loc;hn.lt
theorem Inv.sz(I:Inv X pins σ H s):X.s₀.heap.objs.size<=s.heap.objs.size:=Nat.le_trans I.ok.above (Nat.le_of_lt I.lt)
theorem Inv.nofs(I:Inv X pins σ H s){a:Addr}(h:s.heap.objs.size<=a):a∉X.fs:=λhb=>by
 obtain⟨_,o,ho,_⟩:=I.ok.funs.mem hb
 exact absurd (Nat.lt_of_lt_of_le (Heap.lt_size ho) (Nat.le_trans I.sz h)) (Nat.lt_irrefl _)
theorem Inv.cne(I:Inv X pins σ H s):∀ x c,X.env.cells.lookup x=some c->c≠X.env.locals:=λx c e z=>by
 obtain⟨v,o,ho,hd⟩:=I.cell x c e
 obtain⟨m,⟨o',es,ep,ho',hd',_⟩,_⟩:=I.loc
 rw[z,ho'] at ho;cases ho;rw[hd'] at hd;cases hd
theorem Inv.funs(I:Inv X pins σ H s):s.heap.FunFrames X.base X.outer:=by
 have all:∀ (l:List Env),(∀ b∈frs l,b∈X.fs)->X.s₀.heap.FunFrames X.base l->s.heap.FunFrames X.base l:=by
  intro l
  induction l with
  | nil=>intro _ _;trivial
  | cons env r ih =>
   intro hs hl
   obtain⟨hk,⟨L,o,hf,hn,ho,hd⟩,hr⟩:=hl
   have hL:L∈X.fs:=hs L (by unfold frs;rw[List.filterMap_cons,hf];exact List.mem_cons_self)
   obtain⟨sl,e⟩:=I.base.slot L o ho (I.ok.frf L hL) hL λz=>I.ok.exfs L z hL
   exact⟨hk,⟨L,_,hf,hn,e,hd⟩,ih (λb hb=>hs b (by unfold frs;rw[List.filterMap_cons,hf];exact List.mem_cons_of_mem _ hb)) hr⟩
 exact all X.outer (λ_ hb=>hb) I.ok.funs
theorem Inv.stack(I:Inv X pins σ H s):s.heap.FunFrames X.base X.stack:=by
 rcases I.ok.stk with e|⟨e,hf⟩
 ·rw[e];exact I.funs
 ·rw[e]
  obtain⟨m,hn,_⟩:=I.loc
  refine .cons (by rw[I.ok.kind];decide) hf hn ?_ I.funs
  exact Heap.get?_none_of_le (Nat.le_trans I.ok.bsz I.ok.above)
theorem Inv.stkSub(I:Inv X pins σ H s):∀ b∈frs X.stack,b∈X.env.locals::X.fs:=λb hb=>by
 rcases I.ok.stk with e|⟨e,hf⟩
 ·rw[e] at hb;exact List.mem_cons_of_mem _ hb
 ·rw[e] at hb
  unfold frs at hb
  rw[List.filterMap_cons,hf] at hb
  exact hb
theorem Inv.stkFree(I:Inv X pins σ H s):∀ b∈frs X.stack,H b=none:=λb hb=>by
 rcases List.mem_cons.mp (I.stkSub b hb) with e|hb
 ·rw[e];exact I.free
 ·obtain⟨_,o,ho,_⟩:=I.ok.funs.mem hb
  exact I.base.free b o ho (I.ok.frf b hb) λz=>I.ok.exfs b z hb
theorem Inv.step{g':Array GenState}{t':Nat}{d':Drawn}{ch:List Addr}(I:Inv X pins σ H s)
  (hch:∀ b∈ch,(b∈X.ex\/X.s₀.heap.objs.size<=b)/\b≠X.env.locals/\(∀ x c,X.env.cells.lookup x=some c->c≠b)/\∀ p∈X.pn++pins,p.1≠b)
  (keep:∀ b o,b≠X.env.locals->b∉X.fs->b∉ch->s.heap.get? b=some o->H b=none->h'.get? b=some o)
  (slot:∀ b o,b≠X.env.locals->b∈X.fs->b∉ch->s.heap.get? b=some o->H b=none->∃ sl,h'.get? b=some { o with slots:=sl }) (free:∀ b o,b∉ch->s.heap.get? b=some o->H b=none->H' b=none)
  (there:∀ b o,b∉ch->s.heap.get? b=some o->∃ o',h'.get? b=some o')
  (tups:∀ b xs,H b=some (.tup xs)->H' b=some (.tup xs)) (frzs:∀ b o u,H b=some (.frz o u)->H' b=some (.frz o u)) (tbls:∀ b ps,H b=some (.tbl ps)->∃ more,H' b=some (.tbl (ps++more)))
  (ns:∀ m,s.heap.Ns X.env.locals m->h'.Ns X.env.locals m) (hok:HOk X.prog X.w H' h') (hg:AllBare g') :
  Inv X pins σ H' { s with heap:=h',gens:=g',drawn:=d',toks:=t' }:=by
 have neL:∀ b o,X.s₀.heap.get? b=some o->b≠X.env.locals:=λb o e=>Nat.ne_of_lt (Nat.lt_of_lt_of_le (Heap.lt_size e) I.ok.above)
 have neC:∀ b o,X.s₀.heap.get? b=some o->b∉X.ex->b∉ch:=λb o e hx hb=>by
  rcases (hch b hb).1 with z|z
  ·exact hx z
  ·exact absurd (Nat.lt_of_lt_of_le (Heap.lt_size e) z) (Nat.lt_irrefl _)
 have cellK:∀ x c,X.env.cells.lookup x=some c->∀ v,s.heap.IsCell c v->h'.IsCell c v:=λx c e v ⟨o,ho,hd⟩=>by
  have nch:c∉ch:=λz=>(hch c z).2.2.1 x c e rfl
  by_cases hc:c∈X.fs
  ·obtain⟨sl,q⟩:=slot c o (I.cne x c e) hc nch ho (I.freeC x c e)
   exact⟨_,q,hd⟩
  ·exact⟨o,keep c o (I.cne x c e) hc nch ho (I.freeC x c e),hd⟩
 refine⟨I.ok,I.os,hg,⟨λb o e n hb hx=>?_,λb o e n hb hx=>?_,λb o e n hx=>?_,λb o e hx=>?_,λb xs e=>tups b xs (I.base.tups b xs e),λb o xs e=>frzs b o xs (I.base.frzs b o xs e),λb ps e=>?_⟩,?_,λx c e=>?_,?_,λx c e=>?_,λp hp=>?_,hok,I.len⟩
 ·exact keep b o (neL b o e) hb (neC b o e hx) (I.base.keep b o e n hb hx) (I.base.free b o e n hx)
 ·obtain⟨sl,e1⟩:=I.base.slot b o e n hb hx
  obtain⟨sl',e2⟩:=slot b _ (neL b o e) hb (neC b o e hx) e1 (I.base.free b o e n hx)
  exact⟨sl',e2⟩
 ·obtain⟨o',e1⟩:=I.base.there b o e hx
  exact free b o' (neC b o e hx) e1 (I.base.free b o e n hx)
 ·obtain⟨o',e1⟩:=I.base.there b o e hx
  exact there b o' (neC b o e hx) e1
 ·obtain⟨m1,e1⟩:=I.base.tbls b ps e
  obtain⟨m2,e2⟩:=tbls b _ e1
  exact⟨m1++m2,by rw[e2,Array.append_assoc]⟩
 ·obtain⟨m,hn,hl⟩:=I.loc
  refine⟨m,ns m hn,λi x v e1 e2 e3=>?_⟩
  obtain⟨u,r,l⟩:=hl i x v e1 e2 e3
  refine⟨u,r,?_⟩
  rcases l with l|⟨k,c,e,z⟩
  ·exact .inl l
  ·exact .inr ⟨k,c,e,cellK x c e _ z⟩
 ·obtain⟨v,z⟩:=I.cell x c e
  exact⟨v,cellK x c e v z⟩
 ·obtain⟨m,⟨o,_,_,ho,_⟩,_⟩:=I.loc
  exact free _ o (λz=>(hch _ z).2.1 rfl) ho I.free
 ·obtain⟨v,o,ho,hd⟩:=I.cell x c e
  exact free c o (λz=>(hch c z).2.2.1 x c e rfl) ho (I.freeC x c e)
 ·obtain⟨e,n,ne,nf,d⟩:=I.pin p hp
  have nch:p.1∉ch:=λz=>(hch p.1 z).2.2.2 p hp rfl
  exact⟨keep p.1 p.2 ne nf nch e n,free p.1 p.2 nch e n,ne,nf,d⟩
theorem Inv.un{t':Nat}(I:Inv X pins σ H s)(u:Un X.fs [] H H' s.heap h')(hok:HOk X.prog X.w H' h'):Inv X pins σ H' { s with heap:=h',toks:=t' }:=by
 obtain⟨m,⟨o,es,ep,ho,r⟩,_⟩:=id I.loc
 obtain⟨sl,hL⟩:=u.any ho I.free (by simp)
 exact I.step (g':=s.gens) (d':=s.drawn) (ch:=[]) (λ_ z=>nomatch z) (λb o _ hb _ e n=>u.keep b o e n hb (by simp)) (λb o _ hb _ e n=>u.slot b o e n hb (by simp)) (λb o _ e n=>u.free b o e n (by simp)) (λb o _ e=>u.there b o e (by simp)) u.tups u.frzs u.tbls (λm' hm=>by
  obtain⟨o',es',ep',ho',r'⟩:=hm
  rw[ho] at ho';cases ho'
  exact⟨_,es',ep',hL,r'⟩) hok I.bare
theorem Inv.call{g':Array GenState}{t':Nat}{d':Drawn}{ch:List Addr}(I:Inv X pins σ H s)(u:Un (frs X.stack) ch H H' s.heap h')(hok:HOk X.prog X.w H' h')(hg:AllBare g')
  (hch:∀ b∈ch,(b∈X.ex\/X.s₀.heap.objs.size<=b)/\b≠X.env.locals/\(∀ x c,X.env.cells.lookup x=some c->c≠b)/\∀ p∈X.pn++pins,p.1≠b) :
  Inv X pins σ H' { s with heap:=h',gens:=g',drawn:=d',toks:=t' }:=by
 obtain⟨m,⟨o,es,ep,ho,r⟩,_⟩:=id I.loc
 obtain⟨sl,hL⟩:=u.any ho I.free λz=>(hch _ z).2.1 rfl
 exact I.step (ch:=ch) hch (λb o hL hb hc e n=>u.keep b o e n (λz=>(List.mem_cons.mp (I.stkSub b z)).elim hL hb) hc) (λb o _ _ hc e n=>u.any e n hc) (λb o hc e n=>u.free b o e n hc) (λb o hc e=>u.there b o e hc) u.tups u.frzs u.tbls (λm' hm=>by
  obtain⟨o',es',ep',ho',r'⟩:=hm
  rw[ho] at ho';cases ho'
  exact⟨_,es',ep',hL,r'⟩) hok hg
theorem Inv.turned{t':Nat}{it:Addr}(I:Inv X pins σ H s)(k:∀ b o,b≠it->s.heap.get? b=some o->h'.get? b=some o)(hn:H it=none)(hL:it≠X.env.locals)
  (h1:it∈X.ex\/X.s₀.heap.objs.size<=it) (h2:∀ x c,X.env.cells.lookup x=some c->c≠it) (h3:∀ p∈X.pn++pins,p.1≠it):Inv X pins σ H { s with heap:=h',toks:=t' }:=by
 have nit:∀ b u,H b=some u->b≠it:=λb u e z=>by rw[z,hn] at e;cases e
 refine I.step (g':=s.gens) (d':=s.drawn) (ch:=[it]) (λb hb=>?_) (λb o _ _ hc e _=>k b o (λz=>hc (by simp[z])) e) (λb o _ _ hc e _=>⟨o.slots,k b o (λz=>hc (by simp[z])) e⟩) (λ_ _ _ _ n=>n)
  (λb o hc e=>⟨o,k b o (λz=>hc (by simp[z])) e⟩) (λ_ _ e=>e) (λ_ _ _ e=>e) (λb ps e=>⟨#[],by rw[e];simp⟩) (λm hm=>?_) (λb u e=>?_) I.bare
 ·have e:b=it:=by simpa using hb
  subst e
  exact⟨h1,hL,h2,h3⟩
 ·obtain⟨o,es,ep,ho,r⟩:=hm
  exact⟨o,es,ep,k _ o (Ne.symm hL) ho,r⟩
 ·refine (I.hok b u e).stay (λc v hc q=>k c v ?_ q) (λ_ q=>q) λ_ _ q=>q
  rcases hc with z|z
  ·rw[z];exact nit b u e
  ·exact nit c _ z
theorem Inv.tok(I:Inv X pins σ H s)(t:Nat):Inv X pins σ H { s with toks:=t }:=I.un (h':=s.heap) (t':=t) Un.refl I.hok
theorem Inv.kept{t':Nat}(I:Inv X pins σ H s)(k:∀ b u,s.heap.get? b=some u->h'.get? b=some u):Inv X pins σ H { s with heap:=h',toks:=t' }:=I.un (Un.kept k) (I.hok.kept k)
theorem Inv.laid{a:Addr}{o:HO}{t':Nat}(I:Inv X pins σ H s)(k:∀ b u,s.heap.get? b=some u->h'.get? b=some u)(hp:s.heap.objs.size<=a)(new:ObjOk X.prog X.w (upd H a o) h' a o) :
  Inv X pins σ (upd H a o) { s with heap:=h',toks:=t' }:=I.un (Un.laid k hp (I.hok.fresh hp)) (I.hok.laid k hp new)
theorem Inv.write{x e:Addr}{o:HO}{t':Nat}(I:Inv X pins σ H s)(mu:Mut (H x))(he:e=x\/H e=some (.own x))(k:∀ b u,b≠e->s.heap.get? b=some u->h'.get? b=some u)(heo:∃ u,h'.get? e=some u)
  (new:ObjOk X.prog X.w (upd H x o) h' x o):Inv X pins σ (upd H x o) { s with heap:=h',toks:=t' }:=I.un (Un.write mu he k heo) (I.hok.write mu he k heo new)
theorem Inv.pins_of{pins':List (Addr×Obj)}(I:Inv X pins σ H s)(h:∀ p∈pins',s.heap.get? p.1=some p.2/\H p.1=none/\p.1≠X.env.locals/\p.1∉X.fs/\∀ v,p.2.data≠.cell v):Inv X pins' σ H s :=
 ⟨I.ok,I.os,I.bare,I.base,I.loc,I.cell,I.free,I.freeC,λp hp=>(List.mem_append.mp hp).elim (λz=>I.pin p (List.mem_append_left _ z)) (h p),I.hok,I.len⟩
theorem Zhc{N:List Str}(hN:N.Nodup){i j:Nat}{x:Str}(a:N[i]?=some x)(b:N[j]?=some x):i=j:=by
 obtain⟨h1,e1⟩:=List.getElem?_eq_some_iff.mp a
 obtain⟨h2,e2⟩:=List.getElem?_eq_some_iff.mp b
 exact (List.getElem_inj hN).mp (e1.trans e2.symm)
theorem Zce{M:Model}{A:Around}{E:Value->Shared->Prop}{i:Nat}{x:Str}{v:V}{u:Value}{Q:Unit->Shared->Prop}(I:Inv X pins σ H s)(hN:X.N.Nodup)(hi:X.N[i]?=some x)(hx:Loc X.env.scope x)(r:RelV v u)
  (h:∀ s',Inv X pins (σ.set i (some v)) H s'->(∃ a,Heap.SameBut a s.heap s'.heap/\(a=X.env.locals\/X.env.cells.lookup x=some a))->Q () s') (hf:X.fn x=true\/X.env.scope.names.lookup x=some .local:=by first|exact .inl rfl|exact .inr rfl|assumption):wpAny M A (storeName X.env x u) Q E s:=by
 obtain⟨m,hn,hl⟩:=id I.loc
 have hcls:(X.env.scope.kind == .class || (X.env.scope.kind == .module && X.env.locals != X.env.globals))=false:=by rw[I.ok.kind];rfl
 have hiσ:i<σ.length:=by rw[I.len];exact (List.getElem?_eq_some_iff.mp hi).1
 have cne:=I.cne
 have tracked:∀ {a:Addr} {h':Heap},(∃ o,s.heap.get? a=some o/\H a=none)->Heap.SameBut a s.heap h'->HOk X.prog X.w H h':=λ{a h'} ha hs b ob e=>by
  obtain⟨_,_,hfree⟩:=ha
  refine (I.hok b ob e).stay (λc w' hc q=>(hs.2 c ?_).trans q) (λ_ q=>q) λ_ _ q=>q
  rintro rfl
  rcases hc with rfl|hc
  ·rw[hfree] at e;cases e
  ·rw[hfree] at hc;cases hc
 rcases hx with hk|hk
 ·refine wpAny_storeName_local hk hn (λh' hn' hs=>?_) hcls
  obtain⟨oL,_,_,hoL,_⟩:=id hn
  refine h _ ⟨I.ok,I.os,I.bare,⟨λb o e n hb hx=>?_,λb o e n hb hx=>?_,I.base.free,λb o e hx=>?_,I.base.tups,I.base.frzs,I.base.tbls⟩,⟨_,hn',λj y v' e1 e2 e3=>?_⟩,λy c e=>?_,I.free,I.freeC,λp hp=>?_,tracked ⟨oL,hoL,I.free⟩ hs,by simpa using I.len⟩ ⟨_,hs,.inl rfl⟩
  ·exact (hs.2 b (Nat.ne_of_lt (Nat.lt_of_lt_of_le (Heap.lt_size e) I.ok.above))).trans (I.base.keep b o e n hb hx)
  ·obtain⟨sl,e1⟩:=I.base.slot b o e n hb hx
   exact⟨sl,(hs.2 b (Nat.ne_of_lt (Nat.lt_of_lt_of_le (Heap.lt_size e) I.ok.above))).trans e1⟩
  ·obtain⟨o',e1⟩:=I.base.there b o e hx
   exact⟨o',(hs.2 b (Nat.ne_of_lt (Nat.lt_of_lt_of_le (Heap.lt_size e) I.ok.above))).trans e1⟩
  ·by_cases hj:j=i
   ·subst hj
    rw[hi] at e1;cases e1
    rw[List.getElem?_set_self hiσ] at e2
    cases e2
    exact⟨u,r,.inl ⟨hk,by simp⟩⟩
   ·rw[List.getElem?_set_ne (Ne.symm hj)] at e2
    obtain⟨u',r',q⟩:=hl j y v' e1 e2 e3
    refine⟨u',r',?_⟩
    rcases q with⟨k,e⟩|⟨k,c,e,z⟩
    ·refine .inl ⟨k,?_⟩
     have:y≠x:=λe=>hj (Zhc hN e1 (e▸hi))
     simp[this,e]
    ·exact .inr ⟨k,c,e,z.sameBut hs (cne y c e)⟩
  ·obtain⟨w',z⟩:=I.cell y c e
   exact⟨w',z.sameBut hs (cne y c e)⟩
  ·obtain⟨e,n,ne,nf,d⟩:=I.pin p hp
   exact⟨(hs.2 p.1 ne).trans e,n,ne,nf,d⟩
 ·have hfn:X.fn x=true:=by
   rcases hf with z|z
   ·exact z
   ·rw[z] at hk;cases hk
  obtain⟨c,hc⟩:=I.ok.has x (.inl hk)
  obtain⟨w',z⟩:=I.cell x c hc
  refine wpAny_storeName_cell I.ok.kind hk hc z (λh' hc' hs=>?_)
  obtain⟨oc,hoc,hocd⟩:=id z
  refine h { s with heap:=h' } ⟨I.ok,I.os,I.bare,⟨λb o e n hb hx=>?_,λb o e n hb hx=>?_,I.base.free,λb o e hx=>?_,I.base.tups,I.base.frzs,I.base.tbls⟩,⟨m,hn.sameBut hs (Ne.symm (cne x c hc)),λj y v' e1 e2 e3=>?_⟩,λy c' e=>?_,I.free,I.freeC,λp hp=>?_,tracked ⟨oc,hoc,I.freeC x c hc⟩ hs,by simpa using I.len⟩ ⟨c,hs,.inr hc⟩
  ·exact (hs.2 b (Nat.ne_of_lt (Nat.lt_of_lt_of_le (Heap.lt_size e) (I.ok.cab x c hfn hc)))).trans (I.base.keep b o e n hb hx)
  ·obtain⟨sl,e1⟩:=I.base.slot b o e n hb hx
   exact⟨sl,(hs.2 b (Nat.ne_of_lt (Nat.lt_of_lt_of_le (Heap.lt_size e) (I.ok.cab x c hfn hc)))).trans e1⟩
  ·obtain⟨o',e1⟩:=I.base.there b o e hx
   exact⟨o',(hs.2 b (Nat.ne_of_lt (Nat.lt_of_lt_of_le (Heap.lt_size e) (I.ok.cab x c hfn hc)))).trans e1⟩
  ·by_cases hj:j=i
   ·subst hj
    rw[hi] at e1;cases e1
    rw[List.getElem?_set_self hiσ] at e2
    cases e2
    exact⟨u,r,.inr ⟨.inl hk,c,hc,hc'⟩⟩
   ·rw[List.getElem?_set_ne (Ne.symm hj)] at e2
    obtain⟨u',r',q⟩:=hl j y v' e1 e2 e3
    refine⟨u',r',?_⟩
    rcases q with q|⟨k,c',e,z'⟩
    ·exact .inl q
    ·refine .inr ⟨k,c',e,z'.sameBut hs ?_⟩
     rintro rfl
     exact hj (Zhc hN e1 (I.ok.inj _ _ _ e hc▸hi))
  ·by_cases hcc:c'=c
   ·subst hcc;exact⟨_,hc'⟩
   ·obtain⟨w2,z2⟩:=I.cell y c' e
    exact⟨w2,z2.sameBut hs hcc⟩
  ·obtain⟨e,n,ne,nf,d⟩:=I.pin p hp
   refine⟨(hs.2 p.1 ?_).trans e,n,ne,nf,d⟩
   intro q
   rw[q,hoc] at e
   have q':oc=p.2:=Option.some.inj e
   exact d w' (by rw[<- q'];exact hocd)
theorem Zhd{M:Model}{A:Around}{E:Value->Shared->Prop}{i:Nat}{x:Str}{v:V}{u:Value}{Q:Unit->Shared->Prop}(I:Inv X pins σ H s)(hN:X.N.Nodup)(hi:X.N[i]?=some x)(hx:Loc X.env.scope x)(r:RelV v u)
  (h:∀ s',Inv X pins (σ.set i (some v)) H s'->Q () s') (hf:X.fn x=true\/X.env.scope.names.lookup x=some .local:=by first|exact .inl rfl|exact .inr rfl|assumption):wpAny M A (storeName X.env x u) Q E s :=
 Zce I hN hi hx r (λs' I' _=>h s' I') hf
theorem Inv.call'{s':Shared}{ch:List Addr}(I:Inv X pins σ H s)(ho:s'.os=s.os)(u:Un (frs X.stack) ch H H' s.heap s'.heap)(hok:HOk X.prog X.w H' s'.heap)(hg:AllBare s'.gens)
  (hch:∀ b∈ch,(b∈X.ex\/X.s₀.heap.objs.size<=b)/\b≠X.env.locals/\(∀ x c,X.env.cells.lookup x=some c->c≠b)/\∀ p∈X.pn++pins,p.1≠b):Inv X pins σ H' s':=by
 obtain⟨h',g',d',t',o'⟩:=s'
 have e:o'=s.os:=ho
 subst e
 exact I.call (g':=g') (t':=t') (d':=d') u hok hg hch
end
abbrev XK:=Value->Option Addr->Hp->Prop
abbrev St:=List (Option V)
abbrev VK:=V->Hp->Prop
abbrev TE:=St->Hp->VK->Prop
abbrev TT:=St->Hp->(Bool->Hp->Prop)->Prop
abbrev TA:=St->Hp->(List V->Hp->Prop)->Prop
structure Ends where
 nx:St->Hp->Prop
 rt:VK
 bk:St->Hp->Prop:=λ_ _=>False
 ct:St->Hp->Prop:=λ_ _=>False
abbrev TS:=Ends->St->Hp->Prop
def EP(X:Cx)(pins:List (Addr×Obj))(σ:St)(Q:VK)(u:Value)(s':Shared):Prop:=∃ v H',Inv X pins σ H' s'/\RelV v u/\Q v H'
def TP(X:Cx)(pins:List (Addr×Obj))(σ:St)(Q:Bool->Hp->Prop)(b:Bool)(s':Shared):Prop:=∃ H',Inv X pins σ H' s'/\Q b H'
def AP(X:Cx)(pins:List (Addr×Obj))(σ:St)(Q:List V->Hp->Prop)(us:List Value)(s':Shared):Prop:=∃ vs H',Inv X pins σ H' s'/\Vals vs us/\Q vs H'
def SP(X:Cx)(pins:List (Addr×Obj))(D:Ends)(f:Flow)(s':Shared):Prop :=
 match f with
 | .next=>∃ σ' H',Inv X pins σ' H' s'/\D.nx σ' H'
 | .brk=>∃ σ' H',Inv X pins σ' H' s'/\D.bk σ' H'
 | .cont=>∃ σ' H',Inv X pins σ' H' s'/\D.ct σ' H'
 | .ret u=>∃ v σ' H',Inv X pins σ' H' s'/\RelV v u/\D.rt v H'
def PE(X:Cx)(e:Expr)(t:TE):Prop :=
 ∀ (pins:List (Addr×Obj)) (s:Shared) (σ:St) (H:Hp) (Q:VK),Inv X pins σ H s->t σ H Q->wpAny (model X.prog X.w) X.A (eval e X.env) (EP X pins σ Q) X.xe s
def PT(X:Cx)(e:Expr)(t:TT):Prop :=
 ∀ (pins:List (Addr×Obj)) (s:Shared) (σ:St) (H:Hp) (Q:Bool->Hp->Prop),Inv X pins σ H s->t σ H Q->wpAny (model X.prog X.w) X.A (isTrue e X.env (eval e X.env)) (TP X pins σ Q) X.xe s
def PW(X:Cx)(e:Expr)(t:TT):Prop :=
 ∀ (whole:Sem Value) (pins:List (Addr×Obj)) (s:Shared) (σ:St) (H:Hp) (Q:Bool->Hp->Prop),Inv X pins σ H s->t σ H Q->wpAny (model X.prog X.w) X.A (isTrue e X.env whole) (TP X pins σ Q) X.xe s
theorem PW.pt{X:Cx}{e:Expr}{t:TT}(h:PW X e t):PT X e t:=h _
def PA(X:Cx)(es:List Expr)(t:TA):Prop :=
 ∀ (pos:Pos) (pins:List (Addr×Obj)) (s:Shared) (σ:St) (H:Hp) (Q:List V->Hp->Prop),Inv X pins σ H s->t σ H Q->wpAny (model X.prog X.w) X.A (spliced (backTo pos (starEach es X.env))) (AP X pins σ Q) X.xe s
def PS(X:Cx)(st:Stmt)(t:TS):Prop :=
 ∀ (pins:List (Addr×Obj)) (s:Shared) (σ:St) (H:Hp) (D:Ends),Inv X pins σ H s->t D σ H->wpAny (model X.prog X.w) X.A (exec st X.env) (SP X pins D) X.xe s
def PSs(X:Cx)(st:List Stmt)(t:TS):Prop :=
 ∀ (pins:List (Addr×Obj)) (s:Shared) (σ:St) (H:Hp) (D:Ends),Inv X pins σ H s->t D σ H->wpAny (model X.prog X.w) X.A (execs st X.env) (SP X pins D) X.xe s
theorem thn{α:Type}{t:Sem α}{Q Q':α->Shared->Prop}{M:Model}{A:Around}{E:Value->Shared->Prop}{s:Shared}(h:wpAny M A t Q E s)(hQ:∀ a s,Q a s->Q' a s):wpAny M A t Q' E s:=wpAny_mono h hQ λ_ _ x=>x
end L2
namespace L2
open PySem PySem.Spec PyProof.Rows
section
variable {X:Cx}
def tVar(i:Nat):TE:=λσ H Q=>∃ v,σ[i]?=some (some v)/\Q v H
def tC(v:V):TE:=λ_ H Q=>Q v H
theorem Zlt{i:Nat}{x:Str}{pos:Pos}(hN:X.N[i]?=some x)(hv:Vis X.env.scope x)(hd:(x == ("__debug__" : Str))=false:=by decide)(hcd:(x == ("__classdict__" : Str))=false:=by decide):PE X (.Name x pos) (tVar i):=by
 intro pins s σ H Q I h
 obtain⟨v,e,h⟩:=h
 obtain⟨m,hn,hl⟩:=I.loc
 obtain⟨u,r,l⟩:=hl i x v hN e hv
 have fin:EP X pins σ Q u s:=⟨v,H,I,r,h⟩
 rcases l with⟨hk,hm⟩|⟨hk,c,hc,hcell⟩
 ·exact wpAny_Name (wpAny_loadName_local I.ok.kind hk hn hm fin) hd
 ·rcases hk with hk|hk
  ·exact wpAny_Name (wpAny_loadName_cell I.ok.kind hk hc hcell fin) hd
  ·exact wpAny_Name (wpAny_loadName_free I.ok.kind hk hc hcell fin hcd) hd
theorem Zae{i j pos}:PE X (.Constant (.int i) j pos) (tC (.int i)):=λ_ _ _ H _ I h=>wpAny_Constant_int ⟨.int i,H,I.tok _,⟨_,rfl⟩,h⟩
theorem Zh9{b j pos}:PE X (.Constant (.bool b) j pos) (tC (.bl b)):=λ_ _ _ H _ I h=>Constant_bool ⟨.bl b,H,I,rfl,h⟩
theorem ZiG{x j pos}:PE X (.Constant (.str x) j pos) (tC (.str x)):=λ_ _ _ H _ I h=>Calls.Constant_str ⟨.str x,H,I.tok _,⟨_,rfl⟩,h⟩
def Gl(X:Cx)(x:Str):Prop:=X.env.kindOf x=some .globalImplicit
theorem ZgE{E:Value->Shared->Prop}{pins:List (Addr×Obj)}{s:Shared}{σ:St}{H:Hp}{x:Str}{u:Value}{pos:Pos}{Q:Value->Shared->Prop}(I:Inv X pins σ H s)(hg:Gl X x)(hm:X.mg x=some u)(h:Q u s)
  (hd:(x == ("__debug__" : Str))=false:=by decide):wpAny (model X.prog X.w) X.A (eval (.Name x pos) X.env) Q E s :=
 Calls.Name_function_global I.ok.kind hg (Calls.loadGlobal_global (by rw[I.ok.glob];exact I.mod.glob.keeps I.bk) hm h) hd
theorem ZfQ{E:Value->Shared->Prop}{pins:List (Addr×Obj)}{s:Shared}{σ:St}{H:Hp}{x:Str}{u:Value}{pos:Pos}{Q:Value->Shared->Prop}(I:Inv X pins σ H s)(hg:Gl X x)(hm:X.mg x=none)(hv:bootBuiltins x=some u)(h:Q u s)
  (hn:x ≠ "__name__" := by decide) (hd:(x == ("__debug__" : Str))=false:=by decide):wpAny (model X.prog X.w) X.A (eval (.Name x pos) X.env) Q E s:=by
 obtain⟨mb,h1,h2⟩:=I.mod.blt
 exact Calls.Name_function_global I.ok.kind hg (Calls.loadGlobal_builtin (by rw[I.ok.glob];exact I.mod.glob.keeps I.bk) hm (by rw[I.ok.blt];exact h1.keeps I.bk) ((h2 x hn).trans hv) h) hd
theorem ZlT{x:Str}{v:V}{u:Value}{pos:Pos}(hg:Gl X x)(hm:X.mg x=some u)(r:RelV v u)(hd:(x == ("__debug__" : Str))=false:=by decide):PE X (.Name x pos) (tC v) :=
 λ_ _ _ H _ I h=>ZgE I hg hm ⟨v,H,I,r,h⟩ hd
variable {a b:Expr}{pos:Pos}
variable {tA tB':TT}{rest:List Expr}
def tOr(t u:TT):TT:=λσ H Q=>t σ H λc H1=>if c=true then Q true H1 else u σ H1 Q
theorem Zhe(ha:PT X a tA):PW X (.BoolOp .Or [a] pos) tA:=by
 intro wh pins s σ H Q I h
 refine isTrue_or (thn (ha pins s σ H Q I h) λc s1 e=>?_)
 cases c with
 | false=>exact isTrue_or_nil e
 | true=>exact e
theorem Zkt(ha:PT X a tA)(hb:PW X (.BoolOp .Or (b::rest) pos) tB'):PW X (.BoolOp .Or (a::b::rest) pos) (tOr tA tB'):=by
 intro wh pins s σ H Q I h
 refine isTrue_or (thn (ha pins s σ H _ I h) λc s1 ⟨H1,I1,q1⟩=>?_)
 cases c with
 | true=>exact⟨H1,I1,q1⟩
 | false=>exact hb wh pins s1 σ H1 Q I1 q1
end
end L2
namespace L2
open PySem PySem.Spec PyProof.Rows
def SqL(K:W.Frag)(H:Hp)(a:Addr)(xs:List V):Prop :=
 Rd H a (.lst xs) \/
  ∃ (o:Obj) (its:Array Value) (n:Nat),K.lookup a=some o/\o.cls=.type "list" /\ o.dict=none/\o.data=.seq its n/\its.size<=sizeLine/\Vals xs its.toList
def SqT(K:W.Frag)(H:Hp)(a:Addr)(xs:List V):Prop :=
 Rd H a (.tup xs) \/
  ∃ (o:Obj) (its:Array Value) (n:Nat),K.lookup a=some o/\o.cls=.type "tuple" /\ o.data=.seq its n/\its.size<=sizeLine/\Vals xs its.toList
def absV:Value->Option V
 | .none=>some .non
 | .bool b=>some (.bl b)
 | .int i _=>some (.int i)
 | .str x _=>some (.str x)
 | .bytes b _=>some (.byt b)
 | .float b _=>some (.flt b)
 | .ref a=>some (.ref a)
 | .type n=>some (.ty n)
 | _=>none
theorem RelV.abs{x:V}{u:Value}(r:RelV x u):absV u=some x:=by
 cases x with
 | non=>cases r;rfl
 | bl _=>cases r;rfl
 | int _=>obtain⟨t,rfl⟩:=r;rfl
 | str _=>obtain⟨t,rfl⟩:=r;rfl
 | byt _=>obtain⟨t,rfl⟩:=r;rfl
 | flt _=>obtain⟨t,rfl⟩:=r;rfl
 | ref _=>cases r;rfl
 | ty _=>cases r;rfl
theorem RelV.inj{x y:V}{u:Value}(r:RelV x u)(q:RelV y u):x=y:=Option.some.inj (r.abs.symm.trans q.abs)
theorem Vals.inj:∀ {xs ys:List V} {us:List Value},Vals xs us->Vals ys us->xs=ys
 | _,_,_,.nil,.nil=>rfl
 | _,_,_,.cons r t,.cons r' t'=>by rw[r.inj r',Vals.inj t t']
section
variable {X:Cx}{pins:List (Addr×Obj)}{σ:St}{H:Hp}{s:Shared}{a:Addr}{xs ys:List V}
theorem SqL.of{K:W.Frag}(h:H a=some (.lst xs)):SqL K H a xs:=.inl (.inl h)
theorem SqT.of{K:W.Frag}(h:H a=some (.tup xs)):SqT K H a xs:=.inl (.inl h)
theorem Inv.list(I:Inv X pins σ H s)(h:SqL X.K H a xs):∃ its:List Value,Vals xs its/\PlainL s.heap a its.toArray/\xs.length<=sizeLine:=by
 rcases h with h|⟨o,its,n,hk,hc,hd,hs,hz,r⟩
 ·obtain⟨z,its,n,r,e⟩:=h.ok I.hok
  exact⟨its,r,⟨_,n,e,rfl,rfl,rfl⟩,z⟩
 ·refine⟨its.toList,r,⟨o,n,I.kIn a o hk,hc,hd,by simpa using hs⟩,?_⟩
  have e:=r.length
  simp only[Array.length_toList] at e
  omega
theorem Inv.tuple(I:Inv X pins σ H s)(h:SqT X.K H a xs):∃ its:List Value,Vals xs its/\IsTup s.heap a its.toArray/\xs.length<=sizeLine:=by
 rcases h with h|⟨o,its,n,hk,hc,hs,hz,r⟩
 ·obtain⟨z,its,r,p⟩:=h.ok I.hok
  exact⟨its,r,p,z⟩
 ·refine⟨its.toList,r,⟨o,I.kIn a o hk,hc,n,by simpa using hs⟩,?_⟩
  have e:=r.length
  simp only[Array.length_toList] at e
  omega
theorem Inv.list_inj(I:Inv X pins σ H s)(h:SqL X.K H a xs)(h':SqL X.K H a ys):xs=ys:=by
 obtain⟨its,r,⟨o,n,e,_,_,d⟩,_⟩:=I.list h
 obtain⟨its',r',⟨o',n',e',_,_,d'⟩,_⟩:=I.list h'
 rw[e] at e';cases e'
 rw[d] at d'
 injection d' with d1 _
 have:its=its':=by simpa using congrArg Array.toList d1
 subst this
 exact r.inj r'
theorem Inv.tuple_inj(I:Inv X pins σ H s)(h:SqT X.K H a xs)(h':SqT X.K H a ys):xs=ys:=by
 obtain⟨its,r,⟨o,e,_,n,d⟩,_⟩:=I.tuple h
 obtain⟨its',r',⟨o',e',_,n',d'⟩,_⟩:=I.tuple h'
 rw[e] at e';cases e'
 rw[d] at d'
 injection d' with d1 _
 have:its=its':=by simpa using congrArg Array.toList d1
 subst this
 exact r.inj r'
end
abbrev Cx.wish(X:Cx)(E:Value->Shared->Prop):Cx:={ X with xe:=E }
abbrev Cx.nox(X:Cx):Cx:=X.wish λ_ _=>False
theorem Cx.Ok.wish{X:Cx}(ok:X.Ok)(E:Value->Shared->Prop):(X.wish E).Ok :=
 ⟨ok.mod,ok.kind,ok.glob,ok.blt,ok.above,ok.inj,ok.has,ok.cab,ok.hd,ok.frames,ok.stk,ok.exf,ok.bs,ok.bsz,ok.noex,ok.exfs,ok.funs,ok.frf⟩
theorem Cx.Ok.unwish{X:Cx}{E:Value->Shared->Prop}(ok:(X.wish E).Ok):X.Ok :=
 ⟨ok.mod,ok.kind,ok.glob,ok.blt,ok.above,ok.inj,ok.has,ok.cab,ok.hd,ok.frames,ok.stk,ok.exf,ok.bs,ok.bsz,ok.noex,ok.exfs,ok.funs,ok.frf⟩
section
variable {X:Cx}{pins:List (Addr×Obj)}{σ:St}{H:Hp}{s:Shared}{E:Value->Shared->Prop}
theorem Inv.wish(I:Inv X pins σ H s)(E:Value->Shared->Prop):Inv (X.wish E) pins σ H s:=⟨I.ok.wish E,I.os,I.bare,I.base,I.loc,I.cell,I.free,I.freeC,I.pin,I.hok,I.len⟩
theorem Inv.unwish(I:Inv (X.wish E) pins σ H s):Inv X pins σ H s:=⟨I.ok.unwish,I.os,I.bare,I.base,I.loc,I.cell,I.free,I.freeC,I.pin,I.hok,I.len⟩
theorem SP.unwish{D:Ends}{f:Flow}{s':Shared}(h:SP (X.wish E) pins D f s'):SP X pins D f s':=by
 cases f with
 | next=>obtain⟨σ',H',I,q⟩:=h;exact⟨σ',H',I.unwish,q⟩
 | brk=>obtain⟨σ',H',I,q⟩:=h;exact⟨σ',H',I.unwish,q⟩
 | cont=>obtain⟨σ',H',I,q⟩:=h;exact⟨σ',H',I.unwish,q⟩
 | ret u=>obtain⟨v,σ',H',I,r,q⟩:=h;exact⟨v,σ',H',I.unwish,r,q⟩
theorem PSs.nox{st:List Stmt}{t:TS}(h:PSs X.nox st t):PSs X st t:=λpins s σ H D I hw =>
 wpAny_mono (h pins s σ H D (I.wish _) hw) (λ_ _ q=>q.unwish) λ_ _ z=>False.elim z
end
section
variable {X:Cx}{st:Stmt}{rest:List Stmt}{t u:TS}{e:Expr}{te:TE}{pos:Pos}
def tNext:TS:=λD σ H=>D.nx σ H
def tSeq(t u:TS):TS:=λD σ H=>t { D with nx:=u D } σ H
theorem ZaY:PSs X [] tNext:=λ_ _ σ H _ I h=>wpAny_execs_nil ⟨σ,H,I,h⟩
theorem Zac(h1:PS X st t)(h2:PSs X rest u):PSs X (st::rest) (tSeq t u):=by
 intro pins s σ H D I h
 refine wpAny_execs_cons (thn (h1 pins s σ H { D with nx:=u D } I h) λf s1 q=>?_)
 cases f with
 | next =>
  obtain⟨σ',H',I',q⟩:=q
  exact h2 pins s1 σ' H' D I' q
 | ret v=>exact q
 | brk=>exact q
 | cont=>exact q
theorem Zaf(h1:PS X st t):PSs X [st] t:=by
 intro pins s σ H D I h
 refine wpAny_execs_cons (thn (h1 pins s σ H D I h) λf s1 q=>?_)
 cases f with
 | next=>exact wpAny_execs_nil q
 | ret v=>exact q
 | brk=>exact q
 | cont=>exact q
theorem Inv.quiet{pins:List (Addr×Obj)}{σ:St}{H:Hp}{s:Shared}(I:Inv X pins σ H s):interactive X.env=false:=by simp[interactive,I.ok.kind]
def tDrop(te:TE):TS:=λD σ H=>te σ H λ_ H1=>D.nx σ H1
theorem Za9(he:PE X e te)(hs:swapsWith e none pos.line X.env=pure false:=by rfl):PS X (.Expr e pos) (tDrop te):=by
 intro pins s σ H D I h
 exact wpAny_Expr_any (thn (he pins s σ H _ I h) λv s1 ⟨x,H1,I1,r1,q1⟩=>⟨σ,H1,I1,q1⟩) I.quiet hs
def tRet(te:TE):TS:=λD σ H=>te σ H D.rt
theorem Zap(he:PE X e te):PS X (.Return (some e) pos) (tRet te):=by
 intro pins s σ H D I h
 exact wpAny_Return_some (thn (he pins s σ H _ I h) λv s1 ⟨x,H1,I1,r1,q1⟩=>⟨x,σ,H1,I1,r1,q1⟩)
def tIfS(c:TT)(t u:TS):TS:=λD σ H=>c σ H λb H1=>if b=true then t D σ H1 else u D σ H1
theorem Zdv{c:Expr}{a b:List Stmt}{tc:TT}(hc:PT X c tc)(ha:PSs X a t)(hb:PSs X b u):PS X (.If c a b pos) (tIfS tc t u):=by
 intro pins s σ H D I h
 refine wpAny_If (thn (hc pins s σ H _ I h) λd s1 ⟨H1,I1,q1⟩=>?_)
 cases d with
 | true=>exact ha pins s1 σ H1 D I1 q1
 | false=>exact hb pins s1 σ H1 D I1 q1
def tNever:TS:=λ_ _ _=>False
theorem ZdQ:PS X st tNever:=λ_ _ _ _ _ _ h=>h.elim
end
abbrev TG:=V->St->Hp->(St->Hp->Prop)->Prop
abbrev TGs:=List V->St->Hp->(St->Hp->Prop)->Prop
def PG(X:Cx)(target:Expr)(t:TG):Prop :=
 ∀ (pins:List (Addr×Obj)) (s:Shared) (σ:St) (H:Hp) (v:V) (u:Value) (Q:St->Hp->Prop),Inv X pins σ H s->RelV v u->t v σ H Q ->
  wpAny (model X.prog X.w) X.A (assign target X.env u) (λ_ s'=>∃ σ' H',Inv X pins σ' H' s'/\Q σ' H') X.xe s
def PGs(X:Cx)(ts:List Expr)(t:TGs):Prop :=
 ∀ (pins:List (Addr×Obj)) (s:Shared) (σ:St) (H:Hp) (vs:List V) (us:List Value) (Q:St->Hp->Prop),Inv X pins σ H s->Vals vs us->t vs σ H Q ->
  wpAny (model X.prog X.w) X.A (assignInOrder ((assignEach ts X.env).map (·.2)) us) (λ_ s'=>∃ σ' H',Inv X pins σ' H' s'/\Q σ' H') X.xe s
abbrev TSet:=V->V->V->Hp->(Hp->Prop)->Prop
def PSet(X:Cx)(t:TSet):Prop :=
 ∀ (pins:List (Addr×Obj)) (s:Shared) (σ:St) (H:Hp) (o i v:V) (ov iv u:Value) (Q:Hp->Prop),Inv X pins σ H s->RelV o ov->RelV i iv->RelV v u->t o i v H Q ->
  wpAny (model X.prog X.w) X.A (setItem ov iv u) (λ_ s'=>∃ H',Inv X pins σ H' s'/\Q H') X.xe s
section
variable {X:Cx}{pos:Pos}
def gName(i:Nat):TG:=λv σ H Q=>Q (σ.set i (some v)) H
theorem Zav{i:Nat}{x:Str}(hN:X.N.Nodup)(hi:X.N[i]?=some x)(hx:Loc X.env.scope x)(hf:X.fn x=true\/X.env.scope.names.lookup x=some .local:=by first|exact .inl rfl|exact .inr rfl|assumption):PG X (.Name x pos) (gName i):=by
 intro pins s σ H v u Q I r h
 exact wpAny_assign_Name (Zhd I hN hi hx r (λs' I'=>⟨_,H,I',h⟩) hf)
def gNil:TGs:=λvs σ H Q=>vs=[]/\Q σ H
def gCons(t:TG)(u:TGs):TGs:=λvs σ H Q=>∃ v r,vs=v::r/\t v σ H λσ' H'=>u r σ' H' Q
theorem Ze7:PGs X [] gNil:=by
 intro pins s σ H vs us Q I r h
 obtain⟨e,h⟩:=h
 subst e
 cases r
 exact assignInOrder_nil ⟨σ,H,I,h⟩
theorem ZbK{e:Expr}{es:List Expr}{t:TG}{u:TGs}(h1:PG X e t)(h2:PGs X es u)
  (hs:(assignEach (e::es) X.env).map (·.2)=assign e X.env::(assignEach es X.env).map (·.2):=by rfl):PGs X (e::es) (gCons t u):=by
 intro pins s σ H vs us Q I r h
 obtain⟨v,vr,e1,h⟩:=h
 subst e1
 cases r with
 | cons r rr =>
  rw[hs]
  refine assignInOrder_cons (thn (h1 pins s σ H _ _ _ I r h) λ_ s1 ⟨σ1,H1,I1,q1⟩=>?_)
  exact h2 pins s1 σ1 H1 _ _ Q I1 rr q1
def gTup(K:W.Frag)(n:Nat)(t:TGs):TG:=λv σ H Q=>∃ a xs,v=.ref a/\SqT K H a xs/\xs.length=n/\t xs σ H Q
theorem Zng{es:List Expr}{k:Nat}{t:TGs}{n:Nat}(hc:X.calm=true)(h:PGs X es t)
  (hn:(assignEach es X.env).length=n:=by rfl) (hst:(assignEach es X.env).findIdx? (·.1)=none:=by rfl):PG X (.Tuple es k pos) (gTup X.K n t):=by
 intro pins s σ H v u Q I r hw
 obtain⟨a,xs,e1,hq,hl,hw⟩:=hw
 subst e1
 cases r
 obtain⟨its,rv,ht,hz⟩:=I.tuple hq
 refine assign_Tuple_tuple (I.ok.hd hc) ht (by simp[hn,<- hl,rv.length]) hst λh' hx=>?_
 have I1:Inv X pins σ H { s with heap:=h' }:=I.kept (t':=s.toks) λb o e=>hx b o (Nat.ne_of_lt (Heap.lt_size e)) e
 exact h pins _ σ H xs _ Q I1 (by simpa using rv) hw
def gSub(to ti:TE)(t:TSet):TG:=λv σ H Q=>to σ H λo H1=>ti σ H1 λi H2=>t o i v H2 λH3=>Q σ H3
theorem Zhf{o i:Expr}{to ti:TE}{t:TSet}(ho:PE X o to)(hi:PE X i ti)(hs:PSet X t)
  (ha:∀ v,assign (.Subscript o i pos) X.env v=(do
   let ov <- holding [v] (eval o X.env)
   let iv <- holding [v,ov] (eval i X.env)
   standAt pos
   holding [v,ov,iv] (setItem ov iv v)
   release [v,ov,iv] []):=by intro _;rfl):PG X (.Subscript o i pos) (gSub to ti t):=by
 intro pins s σ H v u Q I r h
 rw[ha]
 refine wpAny_bind (wpAny_holding (thn (ho pins s σ H _ I h) λov s1 ⟨x,H1,I1,r1,q1⟩=>?_))
 refine wpAny_bind (wpAny_holding (thn (hi pins s1 σ H1 _ I1 q1) λiv s2 ⟨y,H2,I2,r2,q2⟩=>?_))
 refine wpAny_bind (wpAny_standAt (wpAny_bind (wpAny_holding (thn (hs pins s2 σ H2 x y v ov iv u _ I2 r1 r2 r q2) λ_ s3 ⟨H3,I3,q3⟩=>?_))))
 exact wpAny_release ⟨σ,H3,I3,q3⟩
def tAsg(te:TE)(g:TG):TS:=λD σ H=>te σ H λx H1=>g x σ H1 D.nx
theorem Zhg{tg e:Expr}{te:TE}{g:TG}(he:PE X e te)(hg:PG X tg g)(hs:swapsWithSole [tg] e pos.line X.env=pure false:=by rfl)(hw:swappedStores [tg] e X.env=pure none:=by rfl)
  (h1:(assignEach [tg] X.env).map (·.2)=[assign tg X.env]:=by rfl):PS X (.Assign [tg] e pos) (tAsg te g):=by
 intro pins s σ H D I h
 refine wpAny_Assign_stores (thn (he pins s σ H _ I h) λv s1 ⟨x,H1,I1,r1,q1⟩=>?_) hs hw
 rw[h1]
 exact thn (hg pins s1 σ H1 x v _ I1 r1 q1) λ_ s2 q=>q
theorem Zal{i:Nat}{x:Str}{e:Expr}{te:TE}{pos':Pos}(hN:X.N.Nodup)(hi:X.N[i]?=some x)(hx:Loc X.env.scope x)(he:PE X e te)(hs:swapsWith e (some (.Name x pos')) pos.line X.env=pure false:=by rfl)(hf:X.fn x=true\/X.env.scope.names.lookup x=some .local:=by first|exact .inl rfl|exact .inr rfl|assumption) :
  PS X (.Assign [.Name x pos'] e pos) (tAsg te (gName i)):=by
 intro pins s σ H D I h
 refine wpAny_Assign_Name (thn (he pins s σ H _ I h) λv s1 ⟨y,H1,I1,r1,q1⟩=>?_) hs
 exact Zhd I1 hN hi hx r1 (λs2 I2=>⟨_,H1,I2,q1⟩) hf
end
section
variable {X:Cx}{pos:Pos}
def tWhile(c:TT)(tb:TS):TS:=λD σ H=>∃ W:Nat->St->Hp->Prop,(∃ m,W m σ H)/\∀ m σ H,W m σ H ->
 c σ H λb H1=>if b=true then ∃ N:St->Hp->Prop,(∀ σ' H',N σ' H'->∃ m',m' < m/\W m' σ' H')/\tb { D with nx:=N,ct:=N,bk:=D.nx } σ H1 else D.nx σ H1
theorem ZdR{c:Expr}{body:List Stmt}{tc:TT}{tb:TS}(hp:PassesOwn (model X.prog X.w) X.A X.env X.xe)(hc:PT X c tc)(hb:PSs X body tb):PS X (.While c body [] pos) (tWhile tc tb):=by
 intro pins s σ H D I h
 obtain⟨W,⟨m0,w0⟩,turn⟩:=h
 refine wpAny_While (codeAny_whileLoop (λn s'=>∃ σ' H',Inv X pins σ' H' s'/\W n σ' H') ?_ m0 ⟨σ,H,I,w0⟩)
 rintro n s1 ⟨σ1,H1,I1,w1⟩
 refine wpAny_passesOwn hp (thn (hc pins s1 σ1 H1 _ I1 (turn n σ1 H1 w1)) λb s2 ⟨H2,I2,q2⟩=>?_)
 cases b with
 | true =>
  obtain⟨N,hN,q2⟩:=q2
  rw[if_pos rfl]
  refine wpAny_passesOwn hp (thn (hb pins s2 σ1 H2 _ I2 q2) λf s3 q3=>?_)
  cases f with
  | next =>
   obtain⟨σ3,H3,I3,n3⟩:=q3
   obtain⟨m',hm,w3⟩:=hN σ3 H3 n3
   exact⟨m',hm,σ3,H3,I3,w3⟩
  | cont =>
   obtain⟨σ3,H3,I3,n3⟩:=q3
   obtain⟨m',hm,w3⟩:=hN σ3 H3 n3
   exact⟨m',hm,σ3,H3,I3,w3⟩
  | brk=>exact q3
  | ret v=>exact q3
 | false =>
  rw[if_neg Bool.false_ne_true]
  exact wpAny_execs_nil ⟨σ1,H2,I2,q2⟩
end
structure It where
 go:Nat->Hp->Prop
 yld:Nat->Hp->V->Hp->Prop
 stop:Nat->Hp->Prop
def FpOk(X:Cx)(pins:List (Addr×Obj))(H:Hp)(b:Addr):Prop :=
 H b=none/\b≠X.env.locals/\b∉X.fs/\(b∈X.ex\/X.s₀.heap.objs.size<=b)/\(∀ x c,X.env.cells.lookup x=some c->c≠b)/\∀ p∈X.pn++pins,p.1≠b
theorem Inv.fpOk{X:Cx}{pins:List (Addr×Obj)}{σ:St}{H H':Hp}{s:Shared}{b:Addr}(I:Inv X pins σ H s)(hb:s.heap.objs.size<=b)(hn:H' b=none):FpOk X pins H' b:=by
 refine⟨hn,Nat.ne_of_gt (Nat.lt_of_lt_of_le I.lt hb),I.nofs hb,.inr (Nat.le_trans I.sz hb),λx c e z=>?_,λp hp z=>?_⟩
 ·obtain⟨v,q⟩:=I.cell x c e
  exact absurd (Nat.lt_of_lt_of_le q.lt (by rw[z];exact hb)) (Nat.lt_irrefl _)
 ·exact absurd (Nat.lt_of_lt_of_le (Heap.lt_size (I.pin p hp).1) (by rw[z];exact hb)) (Nat.lt_irrefl _)
structure Turn(P:Program)(w:World)(K:W.Frag)(tg:Expr)(J:It)(fp:List Addr)(it:Addr)(tn:Nat->Heap->Prop):Prop where
 mem:it∈fp
 obj:∀ i h,tn i h->∀ b∈fp,∃ o,h.get? b=some o/\∀ v,o.data≠.cell v
 keep:∀ i h h',tn i h->(∀ b∈fp,∀ o,h.get? b=some o->h'.get? b=some o)->tn i h'
 item:∀ (X:Cx),X.prog=P->X.w=w->X.K=K->X.calm=true->∀ (i:Nat) (pins:List (Addr×Obj)) (s:Shared) (σ:St) (H:Hp) (E:Value->Shared->Prop),Inv X pins σ H s->(∀ b∈fp,FpOk X pins H b)->tn i s.heap->J.go i H ->
  wpAny (model P w) X.A (pyNext (.ref it)) (λr s1=>∃ u,r=some u /\
   wpAny (model P w) X.A (letOwnedTupleGo tg (.ref it) u) (λ_ s2=>∃ x H',Inv X pins σ H' s2/\RelV x u/\J.yld i H x H'/\tn (i+1) s2.heap/\∀ b∈fp,H' b=none) E s1) E s
 done:∀ (X:Cx),X.prog=P->X.w=w->X.K=K->X.calm=true->∀ (i:Nat) (pins:List (Addr×Obj)) (s:Shared) (σ:St) (H:Hp) (E:Value->Shared->Prop),Inv X pins σ H s->(∀ b∈fp,FpOk X pins H b)->tn i s.heap->J.stop i H ->
  wpAny (model P w) X.A (pyNext (.ref it)) (λr s1=>r=none/\Inv X pins σ H s1) E s
 self:∀ (A:Around) (i:Nat) (s:Shared) (Q:Value->Shared->Prop) (E:Value->Shared->Prop),tn i s.heap->Q (.ref it) s->wpAny (model P w) A (pyIter (.ref it)) Q E s
abbrev TI:=St->Hp->(It->Hp->Prop)->Prop
def PIE(X:Cx)(pins:List (Addr×Obj))(σ:St)(tg:Expr)(R:It->Hp->Prop)(itv:Value)(s2:Shared):Prop :=
 ∃ (it:Addr) (fp:List Addr) (tn:Nat->Heap->Prop) (J:It) (H':Hp),itv=.ref it/\Inv X pins σ H' s2/\Turn X.prog X.w X.K tg J fp it tn/\tn 0 s2.heap/\(∀ b∈fp,FpOk X pins H' b)/\R J H'
def PI(X:Cx)(tg iter:Expr)(wi:TI):Prop :=
 ∀ (pins:List (Addr×Obj)) (s:Shared) (σ:St) (H:Hp) (R:It->Hp->Prop),Inv X pins σ H s->wi σ H R ->
  wpAny (model X.prog X.w) X.A (eval iter X.env) (λv s1=>wpAny (model X.prog X.w) X.A (pyIter v) (PIE X pins σ tg R) X.xe s1) X.xe s
theorem ZlU{M:Model}{A:Around}{E:Value->Shared->Prop}{s:Shared}{tg:Expr}{it:Addr}{u:Value}{o:Obj}{n:String}{vs:Array Value}{Q:Unit->Shared->Prop}(ho:s.heap.get? it=some o)(hc:o.cls=.type n)(hd:o.data=.fields vs)
    (hn:["enumerate", "zip", "dict_itemiterator", "dict_reverseitemiterator", "odict_iterator", "itertools.zip_longest", "itertools.pairwise"].contains n=false) (hQ:Q () s):wpAny M A (letOwnedTupleGo tg (.ref it) u) Q E s:=by
  unfold letOwnedTupleGo
  cases tg<;>first
    | exact wpAny_pure hQ
    | (cases u<;>first
        | exact wpAny_pure hQ
        | (refine wpAny_bind (wpAny_load ho ?_)
           rw[hc,hd]
           show wpAny M A (if (["enumerate", "zip", "dict_itemiterator", "dict_reverseitemiterator", "odict_iterator", "itertools.zip_longest", "itertools.pairwise"].contains n && vs[0]? == some (rawInt _))=true then _ else _) Q E s
           rw[if_neg (by intro h;rw[hn,Bool.false_and] at h;cases h)]
           exact wpAny_pure hQ))
def Itl(K:W.Frag)(a:Addr):It :=
 ⟨λi H=>∃ xs x,SqL K H a xs/\xs[i]?=some x,λi H x H'=>H'=H/\∀ xs,SqL K H a xs->xs[i]?=some x,λi H=>∃ xs,SqL K H a xs/\xs.length<=i⟩
def Itt(K:W.Frag)(a:Addr):It :=
 ⟨λi H=>∃ xs x,SqT K H a xs/\xs[i]?=some x,λi H x H'=>H'=H/\∀ xs,SqT K H a xs->xs[i]?=some x,λi H=>∃ xs,SqT K H a xs/\xs.length<=i⟩
def Itr(lo:Int)(n:Nat):It:=⟨λi _=>i<n,λi H x H'=>H'=H/\x=.int (lo+i),λi _=>n<=i⟩
theorem ZiH{P:Program}{w:World}{K:W.Frag}{tg:Expr}(a it:Addr):Turn P w K tg (Itl K a) [it] it (λi h=>h.IsListIter it a i) where
 mem:=by simp
 obj:=λi h st b hb=>by
  have e:b=it:=by simpa using hb
  subst e
  obtain⟨o,e,c,d⟩:=st
  exact⟨o,e,λv z=>by rw[d] at z;cases z⟩
 keep:=λi h h' st k=>st.at λo e=>k it (by simp) o e
 item:=by
  intro X hP hw hK hc i pins s σ H E I hf st hg
  subst hP hw hK
  obtain⟨xs,x,hq,hx⟩:=hg
  obtain⟨its,rv,p,hz⟩:=I.list hq
  obtain⟨u,hu,ru⟩:=rv.get hx
  obtain⟨f0,f1,f2,f3,f4,f5⟩:=hf it (by simp)
  refine wpAny_pyNext_list_item st p.isList (x:=u) (by simpa using hu) λh' st' sb=>?_
  have I1:Inv X pins σ H { s with heap:=h' }:=I.turned (t':=s.toks) (λb o hb e=>(sb.2 b hb).trans e) f0 f1 f3 f4 f5
  obtain⟨o,e,c,d⟩:=id st'
  exact⟨u,rfl,ZlU (s:={ s with heap:=h' }) e c d (by decide) ⟨x,H,I1,ru,⟨rfl,λys hy=>by rw[I.list_inj hy hq];exact hx⟩,st',λb hb=>(hf b hb).1⟩⟩
 done:=by
  intro X hP hw hK hc i pins s σ H E I hf st hg
  subst hP hw hK
  obtain⟨xs,hq,hx⟩:=hg
  obtain⟨its,rv,p,hz⟩:=I.list hq
  obtain⟨f0,f1,f2,f3,f4,f5⟩:=hf it (by simp)
  have hl:=rv.length
  exact wpAny_pyNext_list_end (I.ok.hd hc) st p.isList (by simp;omega) λh' eb=>⟨rfl,I.turned (t':=s.toks) (λb o hb e=>eb b o hb e) f0 f1 f3 f4 f5⟩
 self:=λ_ _ _ _ _ st h=>wpAny_pyIter_listiter st h
theorem Zia{P:Program}{w:World}{K:W.Frag}{tg:Expr}(a it:Addr):Turn P w K tg (Itt K a) [it] it (λi h=>h.IsTupleIter it a i) where
 mem:=by simp
 obj:=λi h st b hb=>by
  have e:b=it:=by simpa using hb
  subst e
  obtain⟨o,e,c,d⟩:=st
  exact⟨o,e,λv z=>by rw[d] at z;cases z⟩
 keep:=λi h h' st k=>st.at λo e=>k it (by simp) o e
 item:=by
  intro X hP hw hK hc i pins s σ H E I hf st hg
  subst hP hw hK
  obtain⟨xs,x,hq,hx⟩:=hg
  obtain⟨its,rv,p,hz⟩:=I.tuple hq
  obtain⟨u,hu,ru⟩:=rv.get hx
  obtain⟨f0,f1,f2,f3,f4,f5⟩:=hf it (by simp)
  refine wpAny_pyNext_tuple_item st (show s.heap.IsTuple a its.toArray from p) (x:=u) (by simpa using hu) λh' st' sb=>?_
  have I1:Inv X pins σ H { s with heap:=h' }:=I.turned (t':=s.toks) (λb o hb e=>(sb.2 b hb).trans e) f0 f1 f3 f4 f5
  obtain⟨o,e,c,d⟩:=id st'
  exact⟨u,rfl,ZlU (s:={ s with heap:=h' }) e c d (by decide) ⟨x,H,I1,ru,⟨rfl,λys hy=>by rw[I.tuple_inj hy hq];exact hx⟩,st',λb hb=>(hf b hb).1⟩⟩
 done:=by
  intro X hP hw hK hc i pins s σ H E I hf st hg
  subst hP hw hK
  obtain⟨xs,hq,hx⟩:=hg
  obtain⟨its,rv,p,hz⟩:=I.tuple hq
  obtain⟨f0,f1,f2,f3,f4,f5⟩:=hf it (by simp)
  have hl:=rv.length
  exact wpAny_pyNext_tuple_end (I.ok.hd hc) st (show s.heap.IsTuple a its.toArray from p) (by simp;omega) λh' eb=>⟨rfl,I.turned (t':=s.toks) (λb o hb e=>eb b o hb e) f0 f1 f3 f4 f5⟩
 self:=λ_ _ _ _ _ st h=>wpAny_pyIter_tupleiter st h
theorem Zib{P:Program}{w:World}{K:W.Frag}{tg:Expr}(it:Addr)(lo:Int)(n:Nat):Turn P w K tg (Itr lo n) [it] it (λi h=>IsRangeIter h it (lo+(i:Nat)*1) ((n:Int)-(i:Nat)) 1) where
 mem:=by simp
 obj:=λi h st b hb=>by
  have e:b=it:=by simpa using hb
  subst e
  exact⟨_,st,λv z=>by
   have z':Data.fields _=Data.cell v:=z
   cases z'⟩
 keep:=λi h h' st k=>k it (by simp) _ st
 item:=by
  intro X hP hw hK hc i pins s σ H E I hf st hg
  subst hP hw hK
  obtain⟨f0,f1,f2,f3,f4,f5⟩:=hf it (by simp)
  have W:=Walks.range (prog:=X.prog) (w:=X.w) (I.ok.hd hc) it lo 1 n
  refine W.item i s _ _ hg st λv h' tk hv st' kk=>?_
  obtain⟨t,rfl⟩:=hv
  have I1:Inv X pins σ H { s with heap:=h',toks:=tk }:=I.turned (λb o hb e=>kk b o (by simpa using hb) e) f0 f1 f3 f4 f5
  refine⟨_,rfl,ZlU (s:={ s with heap:=h',toks:=tk }) (n := "range_iterator") st' rfl rfl (by decide) ⟨.int (lo+i),H,I1,⟨t,?_⟩,⟨rfl,rfl⟩,st',λb hb=>(hf b hb).1⟩⟩
  rw[Int.mul_one]
 done:=by
  intro X hP hw hK hc i pins s σ H E I hf st hg
  subst hP hw hK
  obtain⟨f0,f1,f2,f3,f4,f5⟩:=hf it (by simp)
  exact wpAny_pyNext_range_end (I.ok.hd hc) st (by have:n<=i:=hg;omega) λh' eb=>⟨rfl,I.turned (t':=s.toks) (λb o hb e=>eb b o hb e) f0 f1 f3 f4 f5⟩
 self:=λ_ _ _ _ _ st h=>wpAny_pyIter_rangeiter st h
end L2
namespace L2
open PySem PySem.Spec PyProof.Rows
section
variable {X:Cx}{tg:Expr}
theorem Zku{pins:List (Addr×Obj)}{σ:St}{H:Hp}{s:Shared}{R:It->Hp->Prop}{E:Value->Shared->Prop}{lo hi:Int}{t u v:Tok}{tk:Nat}(I:Inv X pins σ H s)(h1:-(2 ^ 62)<=lo)(h2:lo<2 ^ 62)(h3:-(2 ^ 62)<=hi)(h4:hi<2 ^ 62)
  (q:R (Itr lo (hi-lo).toNat) H):wpAny (model X.prog X.w) X.A (pyIter (.ref s.heap.objs.size)) (PIE X pins σ tg R) E { s with heap:=s.heap.push { cls:=.type "range",data:=.fields #[.int lo t,.int hi u,.int 1 v] },toks:=tk }:=by
 refine wpAny_pyIter_range (IsRange.new ..) (small_one h1 h2 h3 h4) ?_
 have I1:Inv X pins σ H { s with heap:=s.heap.push { cls:=.type "range",data:=.fields #[.int lo t,.int hi u,.int 1 v] },toks:=tk }:=I.kept λb o e=>Heap.get?_push_of_some _ e
 refine⟨(s.heap.push { cls:=.type "range",data:=.fields #[.int lo t,.int hi u,.int 1 v] }).objs.size,[(s.heap.push { cls:=.type "range",data:=.fields #[.int lo t,.int hi u,.int 1 v] }).objs.size],_,_,H,rfl,
  I1.kept (t':=tk) λb o e=>Heap.get?_push_of_some _ e,Zib _ lo (hi-lo).toNat,?_,λb hb=>?_,q⟩
 ·have e1:lo+((0:Nat):Int)*1=lo:=by simp
  have e2:(((hi-lo).toNat:Nat):Int)-((0:Nat):Int)=Builtin.Range.rangeSize lo hi 1:=by rw[rangeSize_one];split<;>omega
  show IsRangeIter _ _ (lo+((0:Nat):Int)*1) ((((hi-lo).toNat:Nat):Int)-((0:Nat):Int)) 1
  rw[e1,e2]
  exact Heap.get?_push_size _ rfl
 ·have e:b=(s.heap.push { cls:=.type "range",data:=.fields #[.int lo t,.int hi u,.int 1 v] }).objs.size:=by simpa using hb
  subst e
  exact I1.fpOk (Nat.le_refl _) (I1.hok.fresh (Nat.le_refl _))
def iRng1(ta:TA):TI:=λσ H R=>ta σ H λvs H1=>∃ j:Int,vs=[.int j]/\-(2 ^ 62)<=j/\j<2 ^ 62/\R (Itr 0 j.toNat) H1
theorem Zcf{a:Expr}{ta:TA}{p pos:Pos}(hg:Gl X "range")(hm:X.mg "range" = none)(ha:PA X [a] ta)(hs:starEach [a] X.env=[(false,eval a X.env)]:=by rfl):PI X tg (.Call (.Name "range" p) [a] [] pos) (iRng1 ta):=by
 intro pins s σ H R I h
 refine Call_ (ZfQ I hg hm boot_range (PyProof.Rows.callWith_type1 (thn (ha pos pins s σ H _ I h) λus s1 ⟨vs,H1,I1,r1,q1⟩=>?_) hs rfl))
 obtain⟨j,e,q1,q2,q⟩:=q1
 subst e
 cases r1 with
 | cons r rr =>
  cases rr
  obtain⟨t,rfl⟩:=r
  exact call_range_1 (Zku I1 (by omega) (by omega) q1 q2 (by simpa using q))
def tFor(wi:TI)(g:TG)(tb:TS):TS:=λD σ H=>wi σ H λJ H1=>∃ W:Nat->Nat->St->Hp->Prop,(∃ m,W 0 m σ H1)/\∀ i m σ H,W i m σ H ->
 (J.stop i H/\D.nx σ H)\/(J.go i H/\∃ N:St->Hp->Prop,(∀ σ' H',N σ' H'->∃ m',m' < m/\W (i+1) m' σ' H')/\∀ x H',J.yld i H x H'->g x σ H' λσ2 H2=>tb { D with nx:=N,ct:=N,bk:=D.nx } σ2 H2)
def pinsAt(fp:List Addr)(h:Heap):List (Addr×Obj):=fp.filterMap λb=>(h.get? b).map λo=>(b,o)
theorem ZcA{fp:List Addr}{h:Heap}{b:Addr}{o:Obj}(hb:b∈fp)(e:h.get? b=some o):(b,o)∈pinsAt fp h:=List.mem_filterMap.mpr ⟨b,hb,by rw[e];rfl⟩
theorem ZiI{fp:List Addr}{h:Heap}{p:Addr×Obj}(hp:p∈pinsAt fp h):p.1∈fp/\h.get? p.1=some p.2:=by
 obtain⟨b,hb,e⟩:=List.mem_filterMap.mp hp
 cases q:h.get? b with
 | none=>rw[q] at e;cases e
 | some o =>
  rw[q] at e
  have e':(b,o)=p:=Option.some.inj e
  subst e'
  exact⟨hb,q⟩
theorem Inv.pinned{pins:List (Addr×Obj)}{σ:St}{H:Hp}{s:Shared}{fp:List Addr}(I:Inv X pins σ H s)(hf:∀ b∈fp,FpOk X pins H b)(ho:∀ b∈fp,∃ o,s.heap.get? b=some o/\∀ v,o.data≠.cell v):Inv X (pins++pinsAt fp s.heap) σ H s :=
 I.pins_of λp hp=>(List.mem_append.mp hp).elim (λz=>I.pin p (List.mem_append_right _ z)) λz=>by
  obtain⟨hb,e⟩:=ZiI z
  obtain⟨f0,f1,f2,_⟩:=hf p.1 hb
  obtain⟨o,e',d⟩:=ho p.1 hb
  rw[e] at e';cases e'
  exact⟨e,f0,f1,f2,d⟩
theorem Inv.unpinned{pins pl:List (Addr×Obj)}{σ:St}{H:Hp}{s:Shared}(I:Inv X (pins++pl) σ H s):Inv X pins σ H s:=I.pins_of λp hp=>I.pin p (List.mem_append_right _ (List.mem_append_left _ hp))
theorem ZcI{iter:Expr}{body:List Stmt}{wi:TI}{g:TG}{tb:TS}{pos:Pos}(hp:PassesOwn (model X.prog X.w) X.A X.env X.xe)(hc:X.calm=true)(hi:PI X tg iter wi)(hg:PG X tg g)(hb:PSs X body tb)
  (hs:∀ x,foldedSetIterable iter X.env x=pure x:=by intro _;rfl):PS X (.For tg iter body [] pos) (tFor wi g tb):=by
 intro pins s σ H D I h
 refine wpAny_For (thn (hi pins s σ H _ I h) λv s1 h1=>thn h1 λitv s2 h2=>?_) hs
 obtain⟨it,fp,tn,J,H2,e,I2,T,st2,f2,W,⟨m0,w0⟩,turn⟩:=h2
 subst e
 have stat:∀ {H':Hp},(∀ b∈fp,H' b=none)->∀ b∈fp,FpOk X pins H' b:=λhn b hb=>⟨hn b hb,(f2 b hb).2⟩
 refine codeAny_forLoop_any (λn s'=>∃ i σ' H',Inv X pins σ' H' s'/\tn i s'.heap/\(∀ b∈fp,H' b=none)/\W i n σ' H') ?_ m0 ⟨0,σ,H2,I2,st2,λb hb=>(f2 b hb).1,w0⟩
 rintro n s3 ⟨i,σ3,H3,I3,st3,fr3,w3⟩
 rcases turn i n σ3 H3 w3 with⟨stop,qn⟩|⟨go,N,hN,step⟩
 ·refine wpAny_passesOwn hp (thn (T.done X rfl rfl rfl hc i pins s3 σ3 H3 X.xe I3 (stat fr3) st3 stop) λr s4 ⟨hr,I4⟩=>?_)
  subst hr
  exact wpAny_execs_nil ⟨σ3,H3,I4,qn⟩
 ·refine wpAny_passesOwn hp (thn (T.item X rfl rfl rfl hc i pins s3 σ3 H3 X.xe I3 (stat fr3) st3 go) λr s4 ⟨u,hr,h4⟩=>?_)
  subst hr
  refine wpAny_passesOwn hp (thn h4 λ_ s5 ⟨x,H5,I5,r5,y5,st5,fr5⟩=>?_)
  have I5':=I5.pinned (stat fr5) (T.obj _ _ st5)
  refine wpAny_passesOwn hp (thn (hg _ s5 σ3 H5 x u _ I5' r5 (step x H5 y5)) λ_ s6 ⟨σ6,H6,I6,q6⟩=>?_)
  refine wpAny_passesOwn hp (thn (hb _ s6 σ6 H6 _ I6 q6) λf s7 q7=>?_)
  have again:∀ {σ7:St} {H7:Hp},Inv X (pins++pinsAt fp s5.heap) σ7 H7 s7->N σ7 H7->∃ m,m<n/\∃ i σ' H',Inv X pins σ' H' s7/\tn i s7.heap/\(∀ b∈fp,H' b=none)/\W i m σ' H':=λ{σ7 H7} I7 n7=>by
   obtain⟨m',hm,w7⟩:=hN σ7 H7 n7
   refine⟨m',hm,i+1,σ7,H7,I7.unpinned,T.keep _ _ _ st5 λb hb o e=>(I7.pin (b,o) (List.mem_append_right _ (List.mem_append_right _ (ZcA hb e)))).1,λb hb=>?_,w7⟩
   obtain⟨o,e,d⟩:=T.obj _ _ st5 b hb
   exact (I7.pin (b,o) (List.mem_append_right _ (List.mem_append_right _ (ZcA hb e)))).2.1
  cases f with
  | next=>obtain⟨σ7,H7,I7,n7⟩:=q7;exact again I7 n7
  | cont=>obtain⟨σ7,H7,I7,n7⟩:=q7;exact again I7 n7
  | brk=>obtain⟨σ7,H7,I7,q7⟩:=q7;exact⟨σ7,H7,I7.unpinned,q7⟩
  | ret v=>obtain⟨x7,σ7,H7,I7,r7,q7⟩:=q7;exact⟨x7,σ7,H7,I7.unpinned,r7,q7⟩
end
end L2
namespace L2
open PySem PySem.Spec PyProof.Rows
abbrev R2:=V->V->Hp->VK->Prop
def OpR(X:Cx)(f:Value->Value->Sem Value)(r:R2):Prop :=
 ∀ (pins:List (Addr×Obj)) (s:Shared) (σ:St) (H:Hp) (x y:V) (v u:Value) (Q:VK),Inv X pins σ H s->RelV x v->RelV y u->r x y H Q ->
  wpAny (model X.prog X.w) X.A (f v u) (EP X pins σ Q) X.xe s
def CallR(X:Cx)(f:Value)(r:List V->Hp->VK->Prop):Prop :=
 ∀ (pins:List (Addr×Obj)) (s:Shared) (σ:St) (H:Hp) (xs:List V) (us:List Value) (Q:VK),Inv X pins σ H s->Vals xs us->r xs H Q ->
  wpAny (model X.prog X.w) X.A (call f us) (EP X pins σ Q) X.xe s
def tOp(r:R2)(ta tb:TE):TE:=λσ H Q=>ta σ H λx H1=>tb σ H1 λy H2=>r x y H2 Q
def rI(C:Int->Int->Prop)(g:Int->Int->V):R2:=λx y H Q=>∃ i j,x=.int i/\y=.int j/\C i j/\Q (g i j) H
def rI0(g:Int->Int->V):R2:=λx y H Q=>∃ i j,x=.int i/\y=.int j/\Q (g i j) H
section
variable {X:Cx}{a b:Expr}{ta tb:TE}{pos:Pos}
theorem binT(ha:PE X a ta)(hb:PE X b tb){pins:List (Addr×Obj)}{s:Shared}{σ:St}{H:Hp}{R:V->V->Hp->Prop}(I:Inv X pins σ H s)
  (h:ta σ H λx H1=>tb σ H1 λy H2=>R x y H2) {Q:Value->Shared->Prop} {f:Value->Value->Sem Value}
  (hf:∀ v u s2 x y H2,Inv X pins σ H2 s2->RelV x v->RelV y u->R x y H2->wpAny (model X.prog X.w) X.A (f v u) Q X.xe s2) :
  wpAny (model X.prog X.w) X.A (eval a X.env) (λv s₁=>wpAny (model X.prog X.w) X.A (eval b X.env) (λu s₂=>wpAny (model X.prog X.w) X.A (f v u) Q X.xe s₂) X.xe s₁) X.xe s:=by
 refine thn (ha pins s σ H _ I h) λv s1 ⟨x,H1,I1,r1,q1⟩=>?_
 refine thn (hb pins s1 σ H1 _ I1 q1) λu s2 ⟨y,H2,I2,r2,q2⟩=>?_
 exact hf v u s2 x y H2 I2 r1 r2 q2
theorem ZaG{op:Operator}{r:R2}(ho:OpR X (binaryOp op) r)(ha:PE X a ta)(hb:PE X b tb):PE X (.BinOp a op b pos) (tOp r ta tb):=by
 intro pins s σ H Q I h
 exact wpAny_BinOp (binT ha hb I h λv u s2 x y H2 I2 rx ry q=>ho pins s2 σ H2 x y v u Q I2 rx ry q)
theorem opI{f:Value->Value->Sem Value}{C:Int->Int->Prop}{g:Int->Int->Int}
  (rule:∀ (i j:Int) (t u:Tok) (s:Shared) (Q:Value->Shared->Prop) (E:Value->Shared->Prop),C i j->Q (.int (g i j) s.toks) { s with toks:=s.toks+1 }->wpAny (model X.prog X.w) X.A (f (.int i t) (.int j u)) Q E s) :
  OpR X f (rI C λi j=>.int (g i j)):=by
 intro pins s σ H x y v u Q I rx ry h
 obtain⟨i,j,rfl,rfl,hc,q⟩:=h
 obtain⟨t,rfl⟩:=rx
 obtain⟨t',rfl⟩:=ry
 exact rule i j t t' s _ _ hc ⟨.int (g i j),H,I.tok _,⟨_,rfl⟩,q⟩
theorem opI0{f:Value->Value->Sem Value}{g:Int->Int->Int}
  (rule:∀ (i j:Int) (t u:Tok) (s:Shared) (Q:Value->Shared->Prop) (E:Value->Shared->Prop),Q (.int (g i j) s.toks) { s with toks:=s.toks+1 }->wpAny (model X.prog X.w) X.A (f (.int i t) (.int j u)) Q E s) :
  OpR X f (rI0 λi j=>.int (g i j)):=by
 intro pins s σ H x y v u Q I rx ry h
 obtain⟨i,j,rfl,rfl,q⟩:=h
 obtain⟨t,rfl⟩:=rx
 obtain⟨t',rfl⟩:=ry
 exact rule i j t t' s _ _ ⟨.int (g i j),H,I.tok _,⟨_,rfl⟩,q⟩
theorem opB0{f:Value->Value->Sem Value}{g:Int->Int->Bool}
  (rule:∀ (i j:Int) (t u:Tok) (s:Shared) (Q:Value->Shared->Prop) (E:Value->Shared->Prop),Q (.bool (g i j)) s->wpAny (model X.prog X.w) X.A (f (.int i t) (.int j u)) Q E s) :
  OpR X f (rI0 λi j=>.bl (g i j)):=by
 intro pins s σ H x y v u Q I rx ry h
 obtain⟨i,j,rfl,rfl,q⟩:=h
 obtain⟨t,rfl⟩:=rx
 obtain⟨t',rfl⟩:=ry
 exact rule i j t t' s _ _ ⟨.bl (g i j),H,I,rfl,q⟩
def CDiv(i j:Int):Prop:=0<j/\j<1073741824
def CPow(i j:Int):Prop:=0<=j/\j<=1000000/\i.natAbs<2 ^ 64
def CMul(i j:Int):Prop:=(-(2 ^ 64)<i/\i<2 ^ 64)\/(-(2 ^ 64)<j/\j<2 ^ 64)
theorem CMul.ok{i j:Int}(h:CMul i j):IntMulOk i j:=by
 rcases h with⟨h1,h2⟩|⟨h1,h2⟩
 ·exact .of_left (intBits_le_64 h1 h2)
 ·exact .of_right (intBits_le_64 h1 h2)
theorem Znh:OpR X (binaryOp .Add) (rI0 λi j=>.int (i+j)):=opI0 λ_ _ _ _ _ _ _ q=>add_int q
theorem Zlu:OpR X (binaryOp .Sub) (rI0 λi j=>.int (i-j)):=opI0 λ_ _ _ _ _ _ _ q=>sub_int q
theorem Zni:OpR X (binaryOp .Mult) (rI CMul λi j=>.int (i*j)):=opI λ_ _ _ _ _ _ _ hc q=>mul_int q hc.ok
theorem Zd1:OpR X (binaryOp .FloorDiv) (rI CDiv λi j=>.int (i / j)):=opI λi j _ _ _ _ _ hc q=>by
 have h1:(0:Int)<j:=hc.1
 have h2:j<1073741824:=hc.2
 exact floordiv_int (by omega) (by rw[Int.fdiv_eq_ediv_of_nonneg i (by omega)];exact q) (.inl (PyProof.noPylong_small (by omega)))
theorem ZbL:OpR X (binaryOp .Mod) (rI (λ_ j=>0<j) λi j=>.int (i%j)):=opI λi j _ _ _ _ _ hc q=>by
 have h1:(0:Int)<j:=hc
 exact mod_int' (by omega) (by rw[Int.fmod_eq_emod_of_nonneg i (by omega)];exact q)
theorem Znj:OpR X (binaryOp .Pow) (rI CPow λi j=>.int (i ^ j.toNat)):=opI λ_ _ _ _ _ _ _ hc q=>pow_int_small hc.1 hc.2.1 hc.2.2 q
end
def scal:V->V->Bool
 | .non,.non=>true|.non,.int _=>true|.int _,.non=>true|.non,.bl _=>true|.bl _,.non=>true|.non,.str _=>true|.str _,.non=>true
 | .int _,.int _=>true|.bl _,.bl _=>true|.str _,.str _=>true|.byt _,.byt _=>true
 | .int _,.str _=>true|.str _,.int _=>true|.bl _,.str _=>true|.str _,.bl _=>true
 | _,_=>false
def rEq:R2:=λx y H Q=>scal x y=true/\Q (.bl (decide (x=y))) H
def rNe:R2:=λx y H Q=>scal x y=true/\Q (.bl (!decide (x=y))) H
theorem ZiJ{i j:Int}:decide (V.int i=V.int j)=(i == j):=by
 rw[Bool.eq_iff_iff]
 simp
theorem Zlv{i j:Bool}:decide (V.bl i=V.bl j)=(i == j):=by
 rw[Bool.eq_iff_iff]
 simp
theorem ZiK{i j:Str}:decide (V.str i=V.str j)=(i == j):=by
 rw[Bool.eq_iff_iff]
 simp
theorem ZiL{i j:Array UInt8}:decide (V.byt i=V.byt j)=(i.toList == j.toList):=by
 rw[Bool.eq_iff_iff]
 cases i
 cases j
 simp
section
variable {X:Cx}{a b:Expr}{ta tb:TE}{pos:Pos}
theorem ZaI{pins:List (Addr×Obj)}{σ:St}{H:Hp}{s:Shared}{Q:VK}{k k':Bool}(I:Inv X pins σ H s)(q:Q (.bl k) H)(e:k=k'):EP X pins σ Q (.bool k') s:=by
 subst e
 exact⟨.bl k,H,I,rfl,q⟩
theorem ZoY:OpR X (compareOp .Eq) rEq:=by
 intro pins s σ H x y v u Q I rx ry h
 obtain⟨hs,q⟩:=h
 cases x with
 | non =>
  cases rx
  cases y with
  | non=>cases ry;exact PySem.EqNone.eq_none_none (ZaI I q (by simp))
  | bl j=>cases ry;exact PySem.EqNone.eq_none_bool (ZaI I q (by simp))
  | int j=>obtain⟨t',rfl⟩:=ry;exact PySem.EqNone.eq_none_int (ZaI I q (by simp))
  | str j=>obtain⟨t',rfl⟩:=ry;exact PySem.EqNone.eq_none_str (ZaI I q (by simp))
  | _=>exact absurd (show false=true from hs) Bool.false_ne_true
 | bl i =>
  cases rx
  cases y with
  | non=>cases ry;exact PySem.EqNone.eq_bool_none (ZaI I q (by simp))
  | bl j=>cases ry;exact eq_bool (ZaI I q Zlv)
  | str j=>obtain⟨t',rfl⟩:=ry;exact PySem.EqMixed.eq_bool_str (ZaI I q (by simp))
  | _=>exact absurd (show false=true from hs) Bool.false_ne_true
 | int i =>
  obtain⟨t,rfl⟩:=rx
  cases y with
  | non=>cases ry;exact PySem.EqNone.eq_int_none (ZaI I q (by simp))
  | int j=>obtain⟨t',rfl⟩:=ry;exact eq_int (ZaI I q ZiJ)
  | str j=>obtain⟨t',rfl⟩:=ry;exact PySem.EqMixed.eq_int_str (ZaI I q (by simp))
  | _=>exact absurd (show false=true from hs) Bool.false_ne_true
 | str i =>
  obtain⟨t,rfl⟩:=rx
  cases y with
  | non=>cases ry;exact PySem.EqNone.eq_str_none (ZaI I q (by simp))
  | bl j=>cases ry;exact PySem.EqMixed.eq_str_bool (ZaI I q (by simp))
  | int j=>obtain⟨t',rfl⟩:=ry;exact PySem.EqMixed.eq_str_int (ZaI I q (by simp))
  | str j=>obtain⟨t',rfl⟩:=ry;exact eq_str (ZaI I q ZiK)
  | _=>exact absurd (show false=true from hs) Bool.false_ne_true
 | byt i =>
  obtain⟨t,rfl⟩:=rx
  cases y with
  | byt j=>obtain⟨t',rfl⟩:=ry;exact PySem.W.eq_bytes (ZaI I q ZiL)
  | _=>exact absurd (show false=true from hs) Bool.false_ne_true
 | _=>cases y<;>exact absurd (show false=true from hs) Bool.false_ne_true
theorem ZoZ:OpR X (compareOp .NotEq) rNe:=by
 intro pins s σ H x y v u Q I rx ry h
 obtain⟨hs,q⟩:=h
 cases x with
 | non =>
  cases rx
  cases y with
  | non=>cases ry;exact PySem.EqNone.ne_none_none (ZaI I q (by simp))
  | bl j=>cases ry;exact PySem.EqNone.ne_none_bool (ZaI I q (by simp))
  | int j=>obtain⟨t',rfl⟩:=ry;exact PySem.EqNone.ne_none_int (ZaI I q (by simp))
  | str j=>obtain⟨t',rfl⟩:=ry;exact PySem.EqNone.ne_none_str (ZaI I q (by simp))
  | _=>exact absurd (show false=true from hs) Bool.false_ne_true
 | bl i =>
  cases rx
  cases y with
  | non=>cases ry;exact PySem.EqNone.ne_bool_none (ZaI I q (by simp))
  | bl j=>cases ry;exact ne_bool (ZaI I q (congrArg not Zlv))
  | str j=>obtain⟨t',rfl⟩:=ry;exact PySem.EqMixed.ne_bool_str (ZaI I q (by simp))
  | _=>exact absurd (show false=true from hs) Bool.false_ne_true
 | int i =>
  obtain⟨t,rfl⟩:=rx
  cases y with
  | non=>cases ry;exact PySem.EqNone.ne_int_none (ZaI I q (by simp))
  | int j=>obtain⟨t',rfl⟩:=ry;exact ne_int (ZaI I q (congrArg not ZiJ))
  | str j=>obtain⟨t',rfl⟩:=ry;exact PySem.EqMixed.ne_int_str (ZaI I q (by simp))
  | _=>exact absurd (show false=true from hs) Bool.false_ne_true
 | str i =>
  obtain⟨t,rfl⟩:=rx
  cases y with
  | non=>cases ry;exact PySem.EqNone.ne_str_none (ZaI I q (by simp))
  | bl j=>cases ry;exact PySem.EqMixed.ne_str_bool (ZaI I q (by simp))
  | int j=>obtain⟨t',rfl⟩:=ry;exact PySem.EqMixed.ne_str_int (ZaI I q (by simp))
  | str j=>obtain⟨t',rfl⟩:=ry;exact ne_str (ZaI I q (congrArg not ZiK))
  | _=>exact absurd (show false=true from hs) Bool.false_ne_true
 | byt i =>
  obtain⟨t,rfl⟩:=rx
  cases y with
  | byt j=>obtain⟨t',rfl⟩:=ry;exact PySem.W.ne_bytes (ZaI I q (congrArg not ZiL))
  | _=>exact absurd (show false=true from hs) Bool.false_ne_true
 | _=>cases y<;>exact absurd (show false=true from hs) Bool.false_ne_true
theorem Zkv:OpR X (compareOp .Lt) (rI0 λi j=>.bl (decide (i<j))):=opB0 λ_ _ _ _ _ _ _ q=>lt_int q
theorem ZiM:OpR X (compareOp .Gt) (rI0 λi j=>.bl (decide (j<i))):=opB0 λ_ _ _ _ _ _ _ q=>gt_int q
theorem OpR.or{f:Value->Value->Sem Value}{r r':R2}(h:OpR X f r)(h':OpR X f r'):OpR X f (λx y H Q=>r x y H Q\/r' x y H Q):=by
 intro pins s σ H x y v u Q I rx ry q
 rcases q with q|q
 ·exact h pins s σ H x y v u Q I rx ry q
 ·exact h' pins s σ H x y v u Q I rx ry q
theorem nomark(b:Expr){op:CmpOp}(h:op≠.In:=by decide)(h2:op≠.NotIn:=by decide):behindInMarks op b=false:=by
 have e1:(op == CmpOp.In)=false:=by cases op<;>first|rfl|exact absurd rfl h
 have e2:(op == CmpOp.NotIn)=false:=by cases op<;>first|rfl|exact absurd rfl h2
 cases b<;>simp[behindInMarks,e1,e2]
theorem ZlV{op:CmpOp}{r:R2}(ho:OpR X (compareOp op) r)(ha:PE X a ta)(hb:PE X b tb)(hm:behindInMarks op b=false):PE X (.Compare a [op] [b] pos) (tOp r ta tb):=by
 intro pins s σ H Q I h
 exact wpAny_Compare1 (binT ha hb I h λv u s2 x y H2 I2 rx ry q=>ho pins s2 σ H2 x y v u Q I2 rx ry q) hm
def tTest(t:TE):TT:=λσ H Q=>t σ H λx H'=>∃ k,x=.bl k/\Q k H'
theorem ZaA{op:CmpOp}{r:R2}(ho:OpR X (compareOp op) r)(ha:PE X a ta)(hb:PE X b tb)(hm:behindInMarks op b=false):PT X (.Compare a [op] [b] pos) (tTest (tOp r ta tb)):=by
 intro pins s σ H Q I h
 refine wpAny_isTrue_Compare1 (thn (ha pins s σ H _ I h) λv s1 ⟨x,H1,I1,r1,q1⟩=>thn (hb pins s1 σ H1 _ I1 q1) λu s2 ⟨y,H2,I2,r2,q2⟩ =>
  thn (ho pins s2 σ H2 x y v u _ I2 r1 r2 q2) λc s3 ⟨z,H3,I3,r3,k,e,q3⟩=>?_) hm
 subst e
 cases r3
 exact wpAny_truthy_bool ⟨H3,I3,q3⟩
theorem line63:(sizeLine:Nat)<2 ^ 63:=by rw[sizeLine_eq];decide
theorem Zic:OpR X (binaryOp .Add) (λx y H Q=>∃ i j,x=.str i/\y=.str j/\i.length+j.length<=sizeLine/\Q (.str (i++j)) H):=by
 intro pins s σ H x y v u Q I rx ry h
 obtain⟨i,j,rfl,rfl,hz,q⟩:=h
 obtain⟨t,rfl⟩:=rx
 obtain⟨t',rfl⟩:=ry
 exact add_str (λt' tk=>⟨.str (i++j),H,I.tok _,⟨_,rfl⟩,q⟩) hz
theorem vals1{x:V}{us:List Value}(r:Vals [x] us):∃ u,us=[u]/\RelV x u:=by
 cases r with
 | cons r1 r2=>cases r2;exact⟨_,rfl,r1⟩
theorem vals2{x y:V}{us:List Value}(r:Vals [x,y] us):∃ u w',us=[u,w']/\RelV x u/\RelV y w':=by
 cases r with
 | cons r1 r2 =>
  cases r2 with
  | cons r3 r4=>cases r4;exact⟨_,_,rfl,r1,r3⟩
theorem ZiN(hc:X.calm=true):CallR X (.builtin "max") (λxs H Q=>∃ i j,xs=[.int i,.int j]/\Q (.int (if j > i then j else i)) H):=by
 intro pins s σ H xs us Q I r h
 obtain⟨i,j,rfl,q⟩:=h
 obtain⟨u,w',rfl,⟨t,rfl⟩,⟨t',rfl⟩⟩:=vals2 r
 refine max_two_ints (I.ok.hd hc) λh' tk k=>⟨_,H,I.kept k,?_,q⟩
 by_cases hj:j > i
 ·rw[if_pos hj,if_pos hj];exact⟨_,rfl⟩
 ·rw[if_neg hj,if_neg hj];exact⟨_,rfl⟩
theorem ZiO(hc:X.calm=true):CallR X (.builtin "min") (λxs H Q=>∃ i j,xs=[.int i,.int j]/\Q (.int (if j<i then j else i)) H):=by
 intro pins s σ H xs us Q I r h
 obtain⟨i,j,rfl,q⟩:=h
 obtain⟨u,w',rfl,⟨t,rfl⟩,⟨t',rfl⟩⟩:=vals2 r
 refine min_two_ints (I.ok.hd hc) λh' tk k=>⟨_,H,I.kept k,?_,q⟩
 by_cases hj:j<i
 ·rw[if_pos hj,if_pos hj];exact⟨_,rfl⟩
 ·rw[if_neg hj,if_neg hj];exact⟨_,rfl⟩
end
end L2
namespace L2
open PySem PySem.Spec PyProof.Rows
theorem RelO.some_of{v:V}{o:Option Value}(r:RelO (some v) o):∃ u,o=some u/\RelV v u:=by
 cases o with
 | none=>exact (show False from r).elim
 | some u=>exact⟨u,rfl,r⟩
end L2
namespace L2
open PySem PySem.Spec PyProof.Rows
structure Room(k:Nat)(A:Around):Prop where
 hd:A.handled=none
 dp:A.depth+3*k+5<recursionLimit
 un:A.units+16*k+200<cLine
theorem Room.mono{j k:Nat}{A:Around}(r:Room k A)(h:j<=k):Room j A:=⟨r.hd,by have:=r.dp;omega,by have:=r.un;omega⟩
theorem Room.deeper{k:Nat}{A:Around}(r:Room (k+1) A)(env:Env):Room k (A.deeper env) :=
 ⟨r.hd,by have:=r.dp;show A.depth+1+3*k+5<_;omega,by have:=r.un;show A.units+3+16*k+200<_;omega⟩
theorem Room.depth{k:Nat}{A:Around}(r:Room k A):A.depth<recursionLimit:=by have:=r.dp;omega
theorem Room.units{k:Nat}{A:Around}(r:Room k A):A.units+64<cLine:=by have:=r.un;omega
def tNil:TA:=λ_ H Q=>Q [] H
def tCons(ta:TE)(tr:TA):TA:=λσ H Q=>ta σ H λx H1=>tr σ H1 λxs H2=>Q (x::xs) H2
section
variable {X:Cx}{e:Expr}{es:List Expr}{te:TE}{t:TA}{pos:Pos}
theorem Zab:PA X [] tNil:=λ_ _ _ _ H Q I h=>Calls.spliced_nil ⟨[],H,I,.nil,h⟩
theorem Zaa(ha:PE X e te)(hr:PA X es t)(hs:starEach (e::es) X.env=(false,eval e X.env)::starEach es X.env:=by rfl):PA X (e::es) (tCons te t):=by
 intro pos pins s σ H Q I h
 rw[hs]
 show wpAny _ _ (spliced ((false,eval e X.env)::backTo pos (starEach es X.env))) _ _ s
 refine Calls.spliced_cons (thn (ha pins s σ H _ I h) λu s1 ⟨x,H1,I1,r1,q1⟩=>?_)
 exact thn (hr pos pins s1 σ H1 _ I1 q1) λus s2 ⟨xs,H2,I2,r2,q2⟩=>⟨x::xs,H2,I2,.cons r1 r2,q2⟩
def tTup(t:TA):TE:=λσ H Q=>t σ H λxs H1=>xs.length<=sizeLine/\∀ p,H1 p=none->Q (.ref p) (upd H1 p (.tup xs))
def tLst(t:TA):TE:=λσ H Q=>t σ H λxs H1=>xs.length<=sizeLine/\∀ p,H1 p=none->Q (.ref p) (upd H1 p (.lst xs))
theorem ZbM{x1}(h:PA X es t):PE X (.Tuple es x1 pos) (tTup t):=by
 intro pins s σ H Q I hq
 refine wpAny_Tuple_spliced (thn (h pos pins s σ H _ I hq) λus s1 ⟨xs,H1,I1,r,z,q⟩=>⟨by rw[<- r.length];exact z,?_⟩)
 have hf:H1 s1.heap.objs.size=none:=I1.hok.fresh (Nat.le_refl _)
 refine⟨.ref s1.heap.objs.size,upd H1 s1.heap.objs.size (.tup xs),I1.laid (t':=s1.toks) (λb u e=>Heap.get?_push_of_some _ e) (Nat.le_refl _) ?_,rfl,q _ hf⟩
 exact⟨z,us,r,⟨_,Heap.get?_push_size _ rfl,rfl,⟨_,rfl⟩,rfl⟩⟩
theorem Zcb(h:PA X es t):PE X (.List es pos) (tLst t):=by
 intro pins s σ H Q I hq
 refine wpAny_List_spliced (thn (h pos pins s σ H _ I hq) λus s1 ⟨xs,H1,I1,r,z,q⟩=>⟨by rw[<- r.length];exact z,?_⟩)
 have hf:H1 s1.heap.objs.size=none:=I1.hok.fresh (Nat.le_refl _)
 refine⟨.ref s1.heap.objs.size,upd H1 s1.heap.objs.size (.lst xs),I1.laid (t':=s1.toks) (λb u e=>Heap.get?_push_of_some _ e) (Nat.le_refl _) ?_,rfl,q _ hf⟩
 exact⟨z,us,0,r,Heap.get?_push_size _ rfl⟩
end
abbrev Sp:=List V->Hp->VK->XK->Prop
abbrev CXT:=List Env->Hp->Shared->XK->Value->Shared->Prop
structure Env0(P:Program)(w:World)(K:W.Frag)(mg:Str->Option Value)(base:Heap)(A:Around)(outer:List Env)(s:Shared)(H:Hp):Prop where
 frames:A.frames=some outer
 mod:Mod K mg base
 bs:∀ b o,base.get? b=some o->s.heap.get? b=some o/\H b=none
 bsz:base.objs.size<=s.heap.objs.size
 funs:s.heap.FunFrames base outer
 frf:∀ b∈frs outer,H b=none
 hok:HOk P w H s.heap
 bare:AllBare s.gens
def CE(outer:List Env)(P:Program)(w:World)(H:Hp)(s:Shared)(Q:VK)(u:Value)(s':Shared):Prop :=
 ∃ v H',s'.os=s.os/\AllBare s'.gens/\Un (frs outer) [] H H' s.heap s'.heap/\HOk P w H' s'.heap/\RelV v u/\Q v H'
def CR(CX:CXT)(outer:List Env)(P:Program)(w:World)(H:Hp)(s:Shared)(Q:VK)(E:XK)(r:Result)(s':Shared):Prop :=
 match r with
 | .ok (.ret u)=>CE outer P w H s Q u s'
 | .ok _=>False
 | .error e=>CX outer H s E e s'
structure FnOk(P:Program)(w:World)(K:W.Frag)(mg:Str->Option Value)(base:Heap)(CX:CXT)(k:Nat)(f:Addr)(fd:FuncData)(ps:List Str)(sp:Sp):Prop where
 len:∀ vs H Q E,sp vs H Q E->vs.length=ps.length
 run:∀ (A:Around) (outer:List Env) (s:Shared) (H:Hp) (args:Args) (us:List Value) (vs:List V) (Q:VK) (E:XK),Room k A->Env0 P w K mg base A outer s H->BindsTo s fd args (ps.zip us)->Vals vs us->sp vs H Q E ->
  codeAny (model P w) A (.call (.ref f) args) (CR CX outer P w H s Q E) s
theorem FnOk.mono{P:Program}{w:World}{K:W.Frag}{mg:Str->Option Value}{base:Heap}{CX:CXT}{j k:Nat}{f:Addr}{fd:FuncData}{ps:List Str}{sp:Sp}(F:FnOk P w K mg base CX j f fd ps sp)(h:j<=k) :
  FnOk P w K mg base CX k f fd ps sp:=⟨F.len,λA outer s H args us vs Q E hr=>F.run A outer s H args us vs Q E (hr.mono h)⟩
section
variable {X:Cx}{pins:List (Addr×Obj)}{σ:St}{H:Hp}{s s':Shared}
theorem Inv.env0(I:Inv X pins σ H s):Env0 X.prog X.w X.K X.mg X.base X.A X.stack s H :=
 ⟨I.ok.frames,I.ok.mod,I.bs,Nat.le_trans I.ok.bsz I.sz,I.stack,I.stkFree,I.hok,I.bare⟩
theorem Inv.after{Q:VK}{u:Value}(I:Inv X pins σ H s)(h:CE X.stack X.prog X.w H s Q u s'):EP X pins σ Q u s':=by
 obtain⟨v,H',os,bare,un,hok,r,q⟩:=h
 obtain⟨hh,g,d,t,os'⟩:=s'
 obtain rfl:os'=s.os:=os
 exact⟨v,H',I.call (h':=hh) (g':=g) (d':=d) (t':=t) (ch:=[]) un hok bare (λb z=>absurd z (by simp)),r,q⟩
end
def tCall(sp:Sp)(dvs:List V)(E:XK)(t:TA):TE:=λσ H Q=>t σ H λvs H1=>sp (vs++dvs) H1 Q E
def Binds(K:W.Frag)(fd:FuncData)(ps:List Str)(ds:List Value):Prop :=
 ∀ (s:Shared) (us:List Value),K.In s.heap->(us++ds).length=ps.length->BindsTo s fd ⟨us,[]⟩ (ps.zip (us++ds))
theorem Binds.all{K:W.Frag}{fd:FuncData}{ps:List Str}(h:∀ us:List Value,us.length=ps.length->bindArgs fd ⟨us,[]⟩=pure (ps.zip us)):Binds K fd ps []:=λs us _ hl=>by
 rw[List.append_nil] at hl ⊢
 exact .of_eq (h us hl)
def Passes(CX:CXT)(X:Cx)(E:XK):Prop:=∀ (pins:List (Addr×Obj)) (σ:St) (H:Hp) (s:Shared) (e:Value) (s':Shared),Inv X pins σ H s->CX X.stack H s E e s'->X.xe e s'
section
variable {X:Cx}{CX:CXT}{k:Nat}{f:Addr}{fd:FuncData}{ps:List Str}{sp:Sp}{dvs:List V}{ds:List Value}{E:XK}{x:Str}{p pos:Pos}{e:Expr}{es:List Expr}{t:TA}
theorem Znk{pins:List (Addr×Obj)}{σ:St}{H:Hp}{s:Shared}{Q:VK}{us:List Value}{vs:List V}(F:FnOk X.prog X.w X.K X.mg X.base CX k f fd ps sp)(hr:Room k X.A)(hb:Binds X.K fd ps ds)(hd:Vals dvs ds)(hx:Passes CX X E)
  (I:Inv X pins σ H s) (r:Vals vs us) (h:sp (vs++dvs) H Q E):wpAny (model X.prog X.w) X.A (call (.ref f) us) (EP X pins σ Q) X.xe s:=by
 have r2:Vals (vs++dvs) (us++ds):=r.append hd
 have hl:(us++ds).length=ps.length:=by rw[<- r2.length];exact F.len _ _ _ _ h
 refine wpAny_call (codeAny_mono (F.run X.A X.stack s H ⟨us,[]⟩ (us++ds) (vs++dvs) Q E hr I.env0 (hb s us I.kIn hl) r2 h) λr s' hq=>?_)
 cases r with
 | error e=>exact hx pins σ H s e s' I hq
 | ok fl =>
  cases fl with
  | ret u=>exact I.after hq
  | next=>exact False.elim hq
  | brk=>exact False.elim hq
  | cont=>exact False.elim hq
theorem ZlW(F:FnOk X.prog X.w X.K X.mg X.base CX k f fd ps sp)(hr:Room k X.A)(hg:Gl X x)(hm:X.mg x=some (.ref f))(hk:PySem.W.keepIn X.K (.ref f)=true)(hb:Binds X.K fd ps ds)(hd:Vals dvs ds)(hx:Passes CX X E)
  (ha:PA X (e::es) t) (hdb:(x == ("__debug__" : Str))=false:=by decide) (he:starEach (e::es) X.env=(false,eval e X.env)::starEach es X.env:=by rfl) (hpl:(backTo pos (starEach es X.env)).any (·.1)=false:=by rfl) :
  PE X (.Call (.Name x p) (e::es) [] pos) (tCall sp dvs E t):=by
 intro pins s σ H Q I h
 refine wpAny_Call_Name_kw (ZgE I hg hm ?_ hdb)
 refine PySem.W.callWith_K (h₀:=X.base) I.ok.mod.kin hk (thn (ha pos pins s σ H _ I h) λus s1 ⟨vs,H1,I1,r,q⟩=>⟨I1.kIn,?_⟩) he hpl
 exact Znk F hr hb hd hx I1 r q
end
structure FnScope(N P:List Str)(sc:Scope):Prop where
 kind:sc.kind=.function
 co:sc.isCoroutine=false
 gen:sc.isGenerator=false
 nd:N.Nodup
 pre:N.take P.length=P
 par:∀ x∈P,sc.names.lookup x=some .local\/sc.names.lookup x=some .cell
 nofree:∀ y∈sc.names,y.2≠.free
theorem ZfR{kindOf:Str->Option NameKind}{x:Str}:∀ {binds:List (Str×Value)} {m:Str->Option Value},(∀ v,(x,v)∉binds)->bindL kindOf binds m x=m x
 | [],_,_=>rfl
 | (n,v)::r,m,h=>by
  unfold bindL
  rw[ZfR λw hw=>h w (List.mem_cons_of_mem _ hw)]
  split
  ·have:x≠n:=by rintro rfl;exact h v List.mem_cons_self
   simp[this]
  ·rfl
theorem ZfS{kindOf:Str->Option NameKind}{x:Str}:∀ {binds:List (Str×Value)} {m:Str->Option Value},(∀ v,(x,v)∉binds)->bindC kindOf binds m x=m x
 | [],_,_=>rfl
 | (n,v)::r,m,h=>by
  unfold bindC
  rw[ZfS λw hw=>h w (List.mem_cons_of_mem _ hw)]
  split
  ·rfl
  ·have:x≠n:=by rintro rfl;exact h v List.mem_cons_self
   simp[this]
theorem ZfT{kindOf:Str->Option NameKind}{x:Str}{v:Value}:∀ {P:List Str} {vs:List Value} {i:Nat} {m:Str->Option Value},P.Nodup->P[i]?=some x->vs[i]?=some v->kindOf x=some .local ->
  bindL kindOf (P.zip vs) m x=some v
 | [],_,_,_,_,h,_,_=>by simp at h
 | _::_,[],_,_,_,_,h,_=>by simp at h
 | p::P,w::vs,0,m,nd,h1,h2,hk=>by
  simp at h1 h2;subst h1;subst h2
  show bindL kindOf ((p,w)::P.zip vs) m p=_
  unfold bindL
  rw[ZfR λv hv=>(List.nodup_cons.mp nd).1 (List.of_mem_zip hv).1,if_pos hk]
  simp
 | p::P,w::vs,i+1,m,nd,h1,h2,hk=>by
  show bindL kindOf ((p,w)::P.zip vs) m x=_
  unfold bindL
  exact ZfT (i:=i) (List.nodup_cons.mp nd).2 (by simpa using h1) (by simpa using h2) hk
theorem ZfU{kindOf:Str->Option NameKind}{x:Str}{v:Value}:∀ {P:List Str} {vs:List Value} {i:Nat} {m:Str->Option Value},P.Nodup->P[i]?=some x->vs[i]?=some v->kindOf x≠some .local ->
  bindC kindOf (P.zip vs) m x=some v
 | [],_,_,_,_,h,_,_=>by simp at h
 | _::_,[],_,_,_,_,h,_=>by simp at h
 | p::P,w::vs,0,m,nd,h1,h2,hk=>by
  simp at h1 h2;subst h1;subst h2
  show bindC kindOf ((p,w)::P.zip vs) m p=_
  unfold bindC
  rw[ZfS λv hv=>(List.nodup_cons.mp nd).1 (List.of_mem_zip hv).1,if_neg hk]
  simp
 | p::P,w::vs,i+1,m,nd,h1,h2,hk=>by
  show bindC kindOf ((p,w)::P.zip vs) m x=_
  unfold bindC
  exact ZfU (i:=i) (List.nodup_cons.mp nd).2 (by simpa using h1) (by simpa using h2) hk
def start(N:List Str)(vs:List V):St:=vs.map some++List.replicate (N.length-vs.length) none
def cxOf(CX:CXT)(P:Program)(w:World)(K:W.Frag)(mg:Str->Option Value)(base:Heap)(N:List Str)(qual:Str)(scope:Scope)(f:Addr)(cd:Value)(A:Around)(outer:List Env)(s:Shared)(H:Hp)(E:XK):Cx where
 prog:=P
 w:=w
 K:=K
 mg:=mg
 base:=base
 A:=A.deeper (envOfC qual scope s.heap.objs.size f cd)
 N:=N
 s₀:=s
 H₀:=H
 env:=envOfC qual scope s.heap.objs.size f cd
 outer:=outer
 stack:=envOfC qual scope s.heap.objs.size f cd::outer
 ex:=[]
 calm:=true
 fn:=λ_=>true
 pn:=[]
 xe:=λe s'=>wpAny (model P w) (A.deeper (envOfC qual scope s.heap.objs.size f cd)) (leaving (envOfC qual scope s.heap.objs.size f cd) e) (λ_ s''=>CX outer H s E e s'') (λe' s''=>CX outer H s E e' s'') s'
theorem Zhh{sc:Scope}{n:Nat}{x:Str}(h:sc.names.lookup x=some .cell):∃ c,(cellsFrom n sc.names []).lookup x=some c:=by
 have q:=PySem.W.cellsFrom_some sc.names n [] (.inl h)
 exact Option.isSome_iff_exists.mp q
theorem ZiP{CX:CXT}{P:Program}{w:World}{K:W.Frag}{mg:Str->Option Value}{base:Heap}{N ps:List Str}{qual:Str}{scope:Scope}{f:Addr}{cd:Value}{A:Around}{outer:List Env}{s s1:Shared}{H:Hp}{E:XK}{us:List Value}{vs:List V}
  (S:FnScope N ps scope) (hd:A.handled=none) (e0:Env0 P w K mg base A outer s H) (hl:vs.length=ps.length) (r:Vals vs us)
  (x:InCallC s s.heap.objs.size (bindL (envOfC qual scope s.heap.objs.size f cd).kindOf (ps.zip us) λ_=>none) (cellsFrom (s.heap.objs.size+1) scope.names []) (bindC (envOfC qual scope s.heap.objs.size f cd).kindOf (ps.zip us) λ_=>none) s1) :
  Inv (cxOf CX P w K mg base N qual scope f cd A outer s H E) [] (start N vs) H s1:=by
 have hpl:ps.length<=N.length:=by have:=congrArg List.length S.pre;rw[List.length_take] at this;omega
 obtain⟨h1,tk,rfl,hk⟩:=x.done
 have noA:∀ b:Addr,b∉(cxOf CX P w K mg base N qual scope f cd A outer s H E).ex:=λb z=>absurd (show b∈([]:List Addr) from z) (by simp)
 refine⟨⟨e0.mod,S.kind,rfl,rfl,Nat.le_refl _,λy z c h1 h2=>?_,λy hy=>?_,λy c _ h=>?_,λ_=>hd,Around.frames_deeper e0.frames,.inr ⟨rfl,rfl⟩,λb z=>absurd z (noA b),e0.bs,e0.bsz,λb _ _=>noA b,λb z=>absurd z (noA b),e0.funs,e0.frf⟩,
  rfl,e0.bare,Un.kept hk,⟨_,x.toInCall.ns,λi y v h1 h2 h3=>?_⟩,λy c h=>⟨_,x.cell y c h⟩,e0.hok.fresh (Nat.le_refl _),λy c h=>?_,λp hp=>absurd (show p∈([]:List (Addr×Obj)) from hp) (by simp),e0.hok.kept hk,?_⟩
 ·exact name_of_addr x.apart (PySem.mem_of_lookup h1) (PySem.mem_of_lookup h2)
 ·have hy:scope.names.lookup y=some .cell\/scope.names.lookup y=some .free:=hy
  rcases hy with hy|hy
  ·exact Zhh hy
  ·exact absurd rfl (S.nofree _ (PySem.mem_of_lookup hy))
 ·exact Nat.le_of_lt (x.above y c (PySem.mem_of_lookup h))
 ·have hi:i<vs.length:=by
   unfold start at h2
   by_cases hi:i<vs.length
   ·exact hi
   ·rw[List.getElem?_append_right (by simpa using hi)] at h2
    rw[List.getElem?_replicate] at h2
    split at h2<;>cases h2
  have ha:vs[i]?=some v:=by
   unfold start at h2
   rw[List.getElem?_append_left (by simpa using hi),List.getElem?_map] at h2
   cases e:vs[i]? with
   | none=>rw[e] at h2;cases h2
   | some a=>rw[e] at h2;cases h2;rfl
  obtain⟨u,hu,rv⟩:=r.get ha
  have hp:ps[i]?=some y:=by
   rw[<- S.pre,List.getElem?_take_of_lt (by omega)];exact h1
  have ndP:ps.Nodup:=by rw[<- S.pre];exact S.nd.sublist (List.take_sublist _ _)
  refine⟨u,rv,?_⟩
  rcases S.par y (List.mem_of_getElem? hp) with k|k
  ·exact .inl ⟨k,ZfT ndP hp hu k⟩
  ·obtain⟨c,e⟩:=Zhh (n:=s.heap.objs.size+1) k
   refine .inr ⟨.inl k,c,e,?_⟩
   have q:=x.cell y c e
   rw[ZfU ndP hp hu (by show scope.names.lookup y≠_;rw[k];decide)] at q
   exact q
 ·exact e0.hok.fresh (Nat.le_of_lt (x.above y c (PySem.mem_of_lookup h)))
 ·unfold start
  show _=N.length
  rw[List.length_append,List.length_map,List.length_replicate]
  omega
theorem ZlX{CX:CXT}{P:Program}{w:World}{K:W.Frag}{mg:Str->Option Value}{base:Heap}{k:Nat}{f:Addr}{name qual:Str}{params:Arguments}{body:List Stmt}{scope:Scope}{dV kV doc pm cdv ct oc:Value}{an od:Option Addr}
  {osl:Array (Option Value)} {N ps:List Str} {sp:Sp} (lk:K.lookup f=some ⟨oc,od,.func (PySem.W.fnOf name qual params body scope dV kV doc pm an cdv ct),osl⟩) (hcd:W.codeIn K cdv qual=true) (S:FnScope N ps scope)
  (len:∀ vs H Q E,sp vs H Q E->vs.length=ps.length)
  (hbody:∀ (A:Around) (outer:List Env) (s:Shared) (H:Hp) (vs:List V) (Q:VK) (E:XK),Room k (A.deeper (envOfC qual scope s.heap.objs.size f cdv))->sp vs H Q E ->
   ∃ t,PSs (cxOf CX P w K mg base N qual scope f cdv A outer s H E) body t/\t { nx:=λ_ H'=>Q .non H',rt:=Q } (start N vs) H) :
  FnOk P w K mg base CX (k+1) f (PySem.W.fnOf name qual params body scope dV kV doc pm an cdv ct) ps sp:=by
 refine⟨len,λA outer s H args us vs Q E hr e0 hb r hsp=>?_⟩
 have hl:=len _ _ _ _ hsp
 have KX:K.In s.heap:=e0.mod.kin.keeps λb o e=>(e0.bs b o e).1
 have lim:s.heap.NoLimit:=e0.mod.nolimit.keeps λb o e=>(e0.bs b o e).1
 have hkind:∀ y∈ps.zip us,scope.names.lookup y.1=some .local\/(scope.names.lookup y.1=some .cell/\((cellsFrom (s.heap.objs.size+1) scope.names []).lookup y.1).isSome=true):=λ⟨n,v⟩ hy=>by
  rcases S.par n (List.of_mem_zip hy).1 with q|q
  ·exact .inl q
  ·exact .inr ⟨q,PySem.W.cellsFrom_some _ _ _ (.inl q)⟩
 refine codeAny_call_function hr.depth (KX _ _ lk) rfl S.co S.gen rfl (PySem.W.codeRec_of KX hcd) (hb _ _ _ _ ?_)
 refine wpAny_newFunctionEnv_cells S.kind hkind λenv he s1 x=>?_
 subst he
 refine⟨lim.keeps x.toInCall.keep,codeAny_func ?_⟩
 obtain⟨t,ht,hq⟩:=hbody A outer s H vs Q E (hr.deeper _) hsp
 have I:Inv (cxOf CX P w K mg base N qual scope f cdv A outer s H E) [] (start N vs) H s1:=ZiP S hr.hd e0 hl r x
 refine wpAny_mono (ht [] s1 (start N vs) H _ I hq) (λfl s' hs=>?_) λe s' hs=>hs
 have fin:∀ {σ':St} {H':Hp} {v:V} {u:Value},Inv (cxOf CX P w K mg base N qual scope f cdv A outer s H E) [] σ' H' s'->RelV v u->Q v H'->CE outer P w H s Q u s' :=
  λ{σ' H' v u} J rv q=>⟨v,H',J.os,J.bare,J.base,J.hok,rv,q⟩
 cases fl with
 | ret u =>
  obtain⟨v,σ',H',J,rv,q⟩:=hs
  exact fin J rv q
 | next =>
  obtain⟨σ',H',J,q⟩:=hs
  exact fin (v:=V.non) (u:=Value.none) J rfl q
 | brk =>
  obtain⟨_,_,_,q⟩:=hs
  exact False.elim q
 | cont =>
  obtain⟨_,_,_,q⟩:=hs
  exact False.elim q
end L2
namespace L2
open PySem PySem.Spec PyProof.Rows
section
variable {X:Cx}{x:Str}{p pos:Pos}{e:Expr}{es:List Expr}{t:TA}{id T:String}{r:List V->Hp->VK->Prop}
def tCB(r:List V->Hp->VK->Prop)(t:TA):TE:=λσ H Q=>t σ H λvs H1=>r vs H1 Q
theorem Zaz(hc:CallR X (.builtin id) r)(hg:Gl X x)(hm:X.mg x=none)(hv:bootBuiltins x=some (.builtin id))(ha:PA X (e::es) t)(hn:x ≠ "__name__" := by decide)(hdb:(x == ("__debug__" : Str))=false:=by decide)
  (he:starEach (e::es) X.env=(false,eval e X.env)::starEach es X.env:=by rfl) (hpl:(backTo pos (starEach es X.env)).any (·.1)=false:=by rfl):PE X (.Call (.Name x p) (e::es) [] pos) (tCB r t):=by
 intro pins s σ H Q I h
 refine wpAny_Call_Name_kw (ZfQ I hg hm hv ?_ hn hdb)
 exact PyProof.Rows.callWith_builtin1 (thn (ha pos pins s σ H _ I h) λus s1 ⟨vs,H1,I1,r1,q1⟩=>hc pins s1 σ H1 vs us Q I1 r1 q1) he hpl
theorem ZaD(hc:CallR X (.type T) r)(hg:Gl X x)(hm:X.mg x=none)(hv:bootBuiltins x=some (.type T))(ha:PA X (e::es) t)(hn:x ≠ "__name__" := by decide)(hdb:(x == ("__debug__" : Str))=false:=by decide)
  (he:starEach (e::es) X.env=(false,eval e X.env)::starEach es X.env:=by rfl) (hpl:(backTo pos (starEach es X.env)).any (·.1)=false:=by rfl):PE X (.Call (.Name x p) (e::es) [] pos) (tCB r t):=by
 intro pins s σ H Q I h
 refine wpAny_Call_Name_kw (ZfQ I hg hm hv ?_ hn hdb)
 exact PyProof.Rows.callWith_type1 (thn (ha pos pins s σ H _ I h) λus s1 ⟨vs,H1,I1,r1,q1⟩=>hc pins s1 σ H1 vs us Q I1 r1 q1) he hpl
end
end L2
namespace HT
open PySem PyProof.Rows
section
variable {prog:Program}{w:World}{A:Around}{E:Value->Shared->Prop}{s:Shared}
theorem ZlY{t b:Addr}{vs ws:List Value}{Q:Value->Shared->Prop}(ht:IsTup s.heap t vs.toArray)(hb:IsTup s.heap b ws.toArray)(hv:vs≠[])
  (h1:ws=[]->Q (.ref t) s) (h2:ws≠[]->Q (.ref s.heap.objs.size) { s with heap:=s.heap.push { cls:=.type "tuple",data:=.seq (vs++ws).toArray } })
  (hsz:vs.length+ws.length<=sizeLine):wpAny (model prog w) A (binaryOp .Add (.ref t) (.ref b)) Q E s:=by
 obtain⟨⟨cls,dd,data,sl⟩,ho,hc,n,hd⟩:=id ht
 obtain⟨⟨cls2,dd2,data2,sl2⟩,ho2,hc2,n2,hd2⟩:=id hb
 simp only at hc hd hc2 hd2
 subst hc hd hc2 hd2
 have e:vs.toArray++ws.toArray=(vs++ws).toArray:=by simp
 by_cases hw:ws=[]
 ·exact concat_meets ⟨_,ho,rfl⟩ ⟨_,ho2,rfl⟩ noFill_tuple_add seq_tuple_add PySem.F.slot_tuple_add PySem.F.entry_tuple_add (PySem.F.args_tuple_add_2 _ _)
   (tuple_addW1 t b vs.toArray ws.toArray n n2 dd dd2 sl sl2 (by simpa using hv) (by simp[hw])) ⟨ho,ho2,h1 hw⟩
 ·refine concat_meets ⟨_,ho,rfl⟩ ⟨_,ho2,rfl⟩ noFill_tuple_add seq_tuple_add PySem.F.slot_tuple_add PySem.F.entry_tuple_add (PySem.F.args_tuple_add_2 _ _)
   (tuple_addW2 t b vs.toArray ws.toArray n n2 dd dd2 sl sl2 (by simpa using hv) (by simpa using hw) (by rw[List.size_toArray,List.size_toArray];exact hsz)) ⟨ho,ho2,?_⟩
  rw[e]
  exact h2 hw
end
end HT
namespace L2
open PySem PySem.Spec PyProof.Rows
theorem ZeI{ns:List Int}:∀ {us:List Value},Vals (ns.map V.int) us->IntsAre us ns:=by
 induction ns with
 | nil=>intro us r;rw[List.map_nil] at r;cases r;exact .nil
 | cons n ns ih =>
  intro us r
  rw[List.map_cons] at r
  cases r with
  | cons r1 r2 =>
   obtain⟨t,e⟩:=r1
   subst e
   exact .cons n t (ih r2)
section
variable {X:Cx}{p2:Pos}
def rCatT(K:W.Frag):R2:=λx y H Q=>∃ a b xs ys,x=.ref a/\y=.ref b/\SqT K H a xs/\SqT K H b ys/\xs≠[]/\xs.length+ys.length<=sizeLine /\
 (ys=[]->Q (.ref a) H)/\(ys≠[]->∀ p,H p=none->Q (.ref p) (upd H p (.tup (xs++ys))))
theorem Vals.nil_iff{xs:List V}{us:List Value}(r:Vals xs us):us=[]↔xs=[]:=by
 cases r with
 | nil=>simp
 | cons _ _=>simp
theorem ZlZ:OpR X (binaryOp .Add) (rCatT X.K):=by
 intro pins s σ H x y v u Q I rx ry h
 obtain⟨a,b,xs,ys,rfl,rfl,ha,hb,hx,hz,q1,q2⟩:=h
 cases rx
 cases ry
 obtain⟨its,r1,p1,_⟩:=I.tuple ha
 obtain⟨its2,r2,p2,_⟩:=I.tuple hb
 refine HT.ZlY p1 p2 (λz=>hx (r1.nil_iff.mp z)) (λz=>⟨.ref a,H,I,rfl,q1 (r2.nil_iff.mp z)⟩) (λz=>?_) (by rw[<- r1.length,<- r2.length];exact hz)
 refine⟨.ref s.heap.objs.size,_,I.laid (t':=s.toks) (o:=.tup (xs++ys)) (λb ob q=>Heap.get?_push_of_some _ q) (Nat.le_refl _) ?_,rfl,q2 (λw=>z (r2.nil_iff.mpr w)) _ (I.hok.fresh (Nat.le_refl _))⟩
 exact⟨by rw[List.length_append];exact hz,_,r1.append r2,IsTupN.new _ _⟩
end
end L2
namespace L2
open PySem PySem.Spec PyProof.Rows
def ixN(n:Nat)(i:Int):Option Nat:=if 0<=i then (if i<n then some i.toNat else none) else if -(n:Int)<=i then some (i+n).toNat else none
def atI{α:Type}(xs:List α)(i:Int):Option α:=(ixN xs.length i).bind λj=>xs[j]?
theorem ZiQ{n:Nat}{i:Int}{j:Nat}(h:ixN n i=some j):seqIndex? i n=some j/\j<n/\-(n:Int)<=i/\i<n:=by
 unfold ixN at h
 by_cases h0:0<=i
 ·rw[if_pos h0] at h
  by_cases h1:i<n
  ·rw[if_pos h1] at h
   have e:i.toNat=j:=Option.some.inj h
   exact⟨by rw[seqIndex_of h0 h1,e],by omega,by omega,h1⟩
  ·rw[if_neg h1] at h;cases h
 ·rw[if_neg h0] at h
  by_cases h1:-(n:Int)<=i
  ·rw[if_pos h1] at h
   have e:(i+n).toNat=j:=Option.some.inj h
   exact⟨by rw[seqIndex_neg (by omega) h1,e],by omega,h1,by omega⟩
  ·rw[if_neg h1] at h;cases h
theorem ZgF{α:Type}{xs:List α}{i:Int}{v:α}(h:atI xs i=some v):∃ j,seqIndex? i xs.length=some j/\xs[j]?=some v/\j<xs.length/\-(xs.length:Int)<=i/\i<xs.length:=by
 unfold atI at h
 cases e:ixN xs.length i with
 | none=>rw[e] at h;cases h
 | some j =>
  rw[e] at h
  obtain⟨h1,h2,h3,h4⟩:=ZiQ e
  exact⟨j,h1,h,h2,h3,h4⟩
theorem ZiR{α:Type}{xs:List α}{j:Nat}{v:α}(h:xs[j]?=some v):atI xs (j:Int)=some v:=by
 have hj:j<xs.length:=(List.getElem?_eq_some_iff.mp h).1
 have e:ixN xs.length (j:Int)=some j:=by
  unfold ixN
  rw[if_pos (by omega),if_pos (by omega)];simp
 unfold atI;rw[e];exact h
def PlainIx(b:Expr):Prop:=∀ o i,subscripted b false o i=operate [o,i] (getItem o i)
def IxR(X:Cx)(r:R2):Prop :=
 ∀ (value slice:Expr) (pins:List (Addr×Obj)) (s:Shared) (σ:St) (H:Hp) (x y:V) (v u:Value) (Q:VK),Inv X pins σ H s->RelV x v->RelV y u->r x y H Q ->
  subscripted slice false v u=operate [v,u] (getItem v u)->wpAny (model X.prog X.w) X.A (subscriptTail value slice v u) (EP X pins σ Q) X.xe s
def MtR(X:Cx)(id:String)(r:V->List V->Hp->VK->Prop):Prop :=
 ∀ (pins:List (Addr×Obj)) (s:Shared) (σ:St) (H:Hp) (x:V) (xs:List V) (v:Value) (us:List Value) (Q:VK),Inv X pins σ H s->RelV x v->Vals xs us->r x xs H Q ->
  wpAny (model X.prog X.w) X.A (call (.builtin id) (v::us)) (EP X pins σ Q) X.xe s
section
variable {X:Cx}{a b:Expr}{ta tb:TE}{pos:Pos}
theorem IxR.or{r r':R2}(h:IxR X r)(h':IxR X r'):IxR X (λx y H Q=>r x y H Q\/r' x y H Q):=by
 intro value slice pins s σ H x y v u Q I rx ry q hs
 rcases q with q|q
 ·exact h value slice pins s σ H x y v u Q I rx ry q hs
 ·exact h' value slice pins s σ H x y v u Q I rx ry q hs
theorem Zao{r:R2}(hr:IxR X r)(ha:PE X a ta)(hb:PE X b tb)(hs:PlainIx b):PE X (.Subscript a b pos) (tOp r ta tb):=by
 intro pins s σ H Q I h
 exact Subscript_ (binT ha hb I h λv u s2 x y H2 I2 rx ry q=>hr a b pins s2 σ H2 x y v u Q I2 rx ry q (hs _ _))
def rIxL(K:W.Frag):R2:=λx y H Q=>∃ p xs i v,x=.ref p/\y=.int i/\SqL K H p xs/\atI xs i=some v/\Q v H
def rIxT(K:W.Frag):R2:=λx y H Q=>∃ p xs i v,x=.ref p/\y=.int i/\SqT K H p xs/\atI xs i=some v/\Q v H
def rIxS:R2:=λx y H Q=>∃ z i c,x=.str z/\y=.int i/\z.length<=sizeLine/\atI z.cps.toList i=some c/\Q (.str ⟨#[c]⟩) H
theorem Zl0:IxR X (rIxL X.K):=by
 intro value slice pins s σ H x y v u Q I rx ry h hs
 obtain⟨p,xs,i,z,rfl,rfl,hq,he,q⟩:=h
 cases rx
 obtain⟨t,rfl⟩:=ry
 obtain⟨its,r,pl,hz⟩:=I.list hq
 obtain⟨j,h1,h2,h3,h4,h5⟩:=ZgF he
 obtain⟨w,ew,rw'⟩:=r.get h2
 have hl:=r.length
 have hn:=line63
 have fin:EP X pins σ Q w s:=⟨z,H,I,rw',q⟩
 by_cases h0:0<=i
 ·have hj:i.toNat=j:=by
   rw[seqIndex_of h0 h5] at h1
   exact Option.some.inj h1
  exact item_listR pl.isList h0 (by omega) (by rw[hj];simpa using ew) fin hs
 ·have hj:(i+(its.toArray.size:Int)).toNat=j:=by
   rw[seqIndex_neg (by omega) h4] at h1
   rw[List.size_toArray,<- hl]
   exact Option.some.inj h1
  exact subscriptTail_builtinR (x:=w) pl.isList.typeIs slot_list_getitem.lookup
   (wpAny_getItem_list_neg (Q:=λr s'=>r=w/\EP X pins σ Q r s') pl.isList (by omega) (by rw[List.size_toArray]<;>omega) (by omega) (by rw[hj];simpa using ew) ⟨rfl,fin⟩) hs
theorem Znl:IxR X (rIxT X.K):=by
 intro value slice pins s σ H x y v u Q I rx ry h hs
 obtain⟨p,xs,i,z,rfl,rfl,hq,he,q⟩:=h
 cases rx
 obtain⟨t,rfl⟩:=ry
 obtain⟨its,r,pl,hz⟩:=I.tuple hq
 obtain⟨j,h1,h2,h3,h4,h5⟩:=ZgF he
 obtain⟨w,ew,rw'⟩:=r.get h2
 have hl:=r.length
 have hn:=line63
 have fin:EP X pins σ Q w s:=⟨z,H,I,rw',q⟩
 exact subscriptTail_builtinR (x:=w) pl.typeIs slot_tuple_getitem.lookup
  (getItem_tuple (j:=j) (Q:=λr s'=>r=w/\EP X pins σ Q r s') pl (by omega) (by omega) (by rw[List.size_toArray,<- hl];exact h1) (by simpa using ew) ⟨rfl,fin⟩) hs
theorem Znm:IxR X rIxS:=by
 intro value slice pins s σ H x y v u Q I rx ry h hs
 obtain⟨z,i,c,rfl,rfl,hz,he,q⟩:=h
 obtain⟨t,rfl⟩:=rx
 obtain⟨t',rfl⟩:=ry
 obtain⟨j,h1,h2,h3,h4,h5⟩:=ZgF he
 have hl:z.cps.toList.length=z.length:=by simp[Str.length]
 rw[hl] at h1 h4 h5
 have hn:=line63
 exact tail_any (typeIs_str s z t) slot_str_getitem.lookup (getItem_str (c:=c) (by
  have e1:decide (i < -(2 ^ 63:Int))=false:=decide_eq_false (by omega)
  have e2:decide (i≥2 ^ 63)=false:=decide_eq_false (by omega)
  rw[e1,e2,Bool.or_false]) (by rw[h1];simpa using h2) ⟨.str ⟨#[c]⟩,H,I.tok _,⟨_,rfl⟩,q⟩) hs
theorem Zid(its:List Value)(n j:Nat)(u:Value):Obj.mapSeq (·.setIfInBounds j u) { cls:=.type "list",data:=.seq its.toArray n }={ cls:=.type "list",data:=.seq (its.set j u).toArray n }:=by
 simp[Obj.mapSeq]
theorem Inv.lst{pins:List (Addr×Obj)}{σ:St}{H:Hp}{s:Shared}{p:Addr}{xs:List V}(I:Inv X pins σ H s)(h:H p=some (.lst xs)) :
  ∃ (its:List Value) (n:Nat),Vals xs its/\s.heap.get? p=some { cls:=.type "list",data:=.seq its.toArray n }/\xs.length<=sizeLine:=by
 obtain⟨z,its,n,r,e⟩:=I.hok p _ h
 exact⟨its,n,r,e,z⟩
theorem Inv.lstUpd{pins:List (Addr×Obj)}{σ:St}{H:Hp}{s:Shared}{p:Addr}{xs ys:List V}{its its':List Value}{n n':Nat}{f:Obj->Obj}(I:Inv X pins σ H s)(h:H p=some (.lst xs))
  (ho:s.heap.get? p=some { cls:=.type "list",data:=.seq its.toArray n }) (hf:f { cls:=.type "list",data:=.seq its.toArray n }={ cls:=.type "list",data:=.seq its'.toArray n' }) (r:Vals ys its') (hz:ys.length<=sizeLine) (t:Nat) :
  Inv X pins σ (upd H p (.lst ys)) { s with heap:=s.heap.update p f,toks:=t }:=by
 have e:(s.heap.update p f).get? p=some { cls:=.type "list",data:=.seq its'.toArray n' }:=by
  rw[Heap.get?_update_self f ho (by rw[hf]<;>rfl),hf]
 refine I.write (x:=p) (e:=p) (by rw[h];trivial) (.inl rfl) (λb u hb q=>(Heap.get?_update_other _ _ (Ne.symm hb)).trans q) ⟨_,e⟩ ?_
 exact⟨hz,its',n',r,e⟩
def rSetL:V->V->V->Hp->(Hp->Prop)->Prop:=λo i v H Q=>∃ p xs k j,o=.ref p/\i=.int k/\H p=some (.lst xs)/\ixN xs.length k=some j/\Q (upd H p (.lst (xs.set j v)))
theorem Zkw:PSet X rSetL:=by
 intro pins s σ H o i v ov iv u Q I ro ri rv h
 obtain⟨p,xs,k,j,rfl,rfl,hp,hj,q⟩:=h
 cases ro
 obtain⟨t,rfl⟩:=ri
 obtain⟨its,n,r,ho,hz⟩:=I.lst hp
 obtain⟨h1,h2,h3,h4⟩:=ZiQ hj
 have hl:=r.length
 have hn:=line63
 have I':Inv X pins σ (upd H p (.lst (xs.set j v))) { s with heap:=s.heap.update p (Obj.mapSeq (·.setIfInBounds j u)) } :=
  I.lstUpd hp ho (Zid its n j u) (r.set rv j) (by rw[List.length_set];exact hz) s.toks
 by_cases h0:0<=k
 ·have hk:k.toNat=j:=by
   rw[seqIndex_of h0 h4] at h1
   exact Option.some.inj h1
  exact PySem.W.ki_setAt ho h0 (by omega) (by rw[List.size_toArray,<- hl];exact h4) (by rw[hk];exact⟨_,I',q⟩)
 ·have hk:(k+(its.toArray.size:Int)).toNat=j:=by
   rw[seqIndex_neg (by omega) h3] at h1
   rw[List.size_toArray,<- hl]
   exact Option.some.inj h1
  exact PySem.W.ki_setBack ho (by omega) (by rw[List.size_toArray,<- hl];exact h3) (by omega) (by rw[hk];exact⟨_,I',q⟩)
theorem ZfV:OpR X (compareOp .NotIn) (λx y H Q=>∃ i j,x=.str i/\y=.str j/\Q (.bl (!(!(Builtin.Str.occurrences j i 0 j.length 1).isEmpty))) H):=by
 intro pins s σ H x y v u Q I rx ry h
 obtain⟨i,j,rfl,rfl,q⟩:=h
 obtain⟨t,rfl⟩:=rx
 obtain⟨t',rfl⟩:=ry
 exact notIn_str ⟨.bl _,H,I,rfl,q⟩
theorem ZfW:CallR X (.builtin "len") (λxs H Q=>∃ p ys,xs=[.ref p]/\(SqL X.K H p ys\/SqT X.K H p ys)/\Q (.int ys.length) H):=by
 intro pins s σ H xs us Q I r h
 obtain⟨p,ys,rfl,hq,q⟩:=h
 obtain⟨u,rfl,rx⟩:=vals1 r
 cases rx
 have hn:=line63
 rcases hq with hq|hq
 ·obtain⟨its,r',pl,hz⟩:=I.list hq
  have hlen:=r'.length
  exact Calls.call_len_list pl.isList (by simp only[List.size_toArray]<;>omega) ⟨.int ys.length,H,I.tok _,⟨s.toks+1,by rw[List.size_toArray,hlen]⟩,q⟩
 ·obtain⟨its,r',pl,hz⟩:=I.tuple hq
  have hlen:=r'.length
  exact len_tuple pl (by simp only[List.size_toArray]<;>omega) ⟨.int ys.length,H,I.tok _,⟨s.toks+1,by rw[List.size_toArray,hlen]⟩,q⟩
theorem ZfX:CallR X (.builtin "len") (λxs H Q=>∃ z,xs=[.str z]/\z.length<=sizeLine/\Q (.int z.length) H):=by
 intro pins s σ H xs us Q I r h
 obtain⟨z,rfl,hz,q⟩:=h
 obtain⟨u,rfl,t,rfl⟩:=vals1 r
 have hn:=line63
 exact len_str (by omega) ⟨.int z.length,H,I.tok _,⟨_,rfl⟩,q⟩
theorem CallR.or{f:Value}{r r':List V->Hp->VK->Prop}(h:CallR X f r)(h':CallR X f r'):CallR X f (λxs H Q=>r xs H Q\/r' xs H Q):=by
 intro pins s σ H xs us Q I rs q
 rcases q with q|q
 ·exact h pins s σ H xs us Q I rs q
 ·exact h' pins s σ H xs us Q I rs q
theorem Ze8:CallR X (.type "tuple") (λxs H Q=>∃ p ys,xs=[.ref p]/\((SqL X.K H p ys/\∀ l,H l=none->Q (.ref l) (upd H l (.tup ys)))\/(SqT X.K H p ys/\Q (.ref p) H))):=by
 intro pins s σ H xs us Q I r h
 obtain⟨p,ys,rfl,h⟩:=h
 obtain⟨u,rfl,rx⟩:=vals1 r
 cases rx
 rcases h with⟨hq,q⟩|⟨hq,q⟩
 ·obtain⟨its,r',pl,hz⟩:=I.list hq
  have hlen:=r'.length
  refine call_tuple_list pl.isList (λh' kp=>?_) (by simp only[List.size_toArray]<;>omega)
  have I1:Inv X pins σ H { s with heap:=h' }:=I.kept (t':=s.toks) kp
  have I2:Inv X pins σ (upd H h'.objs.size (.tup ys)) { s with heap:=h'.push { cls:=.type "tuple",data:=.seq its.toArray } } :=
   I1.laid (t':=s.toks) (λb o e=>Heap.get?_push_of_some _ e) (Nat.le_refl _) (show ObjOk X.prog X.w _ _ _ (.tup ys) from ⟨hz,its,r',IsTupN.new _ _⟩)
  exact⟨.ref h'.objs.size,_,I2,rfl,q _ (I1.hok.fresh (Nat.le_refl _))⟩
 ·obtain⟨its,r',pl,hz⟩:=I.tuple hq
  exact call_tuple_same pl ⟨.ref p,H,I,rfl,q⟩
def tyV(K:W.Frag)(T:String)(x:V)(H:Hp):Prop:=match x with
 | .str _=>T = "str"
 | .int _=>T = "int"
 | .ref p=>(T = "list" /\ ∃ xs,SqL K H p xs)\/(T = "tuple" /\ ∃ o,K.lookup p=some o/\o.cls=.type "tuple" /\ o.dict=none) \/
   (T = "dict" /\ ((∃ kvs,H p=some (.dK kvs))\/∃ kvs,H p=some (.dT kvs)))\/(T = "set" /\ ∃ S n,H p=some (.set S n))
 | _=>False
theorem Zlw{pins:List (Addr×Obj)}{σ:St}{H:Hp}{s:Shared}{T:String}{x:V}{v:Value}(I:Inv X pins σ H s)(r:RelV x v)(ty:tyV X.K T x H) :
  s.TypeIs v T/\∀ a,v=.ref a->∃ ob,s.heap.get? a=some ob/\ob.dict=none:=by
 cases x with
 | str z =>
  obtain⟨t,rfl⟩:=r
  cases (show T = "str" from ty)
  exact⟨typeIs_str s z t,λ_ e=>nomatch e⟩
 | int i =>
  obtain⟨t,rfl⟩:=r
  cases (show T = "int" from ty)
  exact⟨typeIs_int s i t,λ_ e=>nomatch e⟩
 | ref p =>
  cases r
  rcases ty with⟨rfl,xs,hq⟩|⟨rfl,o,hk,hc,hd⟩|⟨rfl,hk⟩|⟨rfl,S,n,hk⟩
  ·obtain⟨its,_,pl,_⟩:=I.list hq
   refine⟨pl.isList.typeIs,λa e=>?_⟩
   cases e
   obtain⟨o,n,e,c,hd,_⟩:=pl
   exact⟨o,e,hd⟩
  ·refine⟨⟨o,I.kIn p o hk,hc⟩,λa e=>?_⟩
   cases e
   exact⟨o,I.kIn _ o hk,hd⟩
  ·have z:∃ o,s.heap.get? p=some o/\o.ExactDict:=by
    rcases hk with⟨kvs,hk⟩|⟨kvs,hk⟩
    ·obtain⟨_,_,_,_,o,_,_,e,ex,_⟩:=I.hok p _ hk
     exact⟨o,e,ex⟩
    ·obtain⟨_,_,_,_,o,_,_,e,ex,_⟩:=I.hok p _ hk
     exact⟨o,e,ex⟩
   obtain⟨o,e,ex⟩:=z
   refine⟨⟨o,e,ex.1⟩,λa e2=>?_⟩
   cases e2
   exact⟨o,e,ex.2.1⟩
  ·obtain⟨o,_,_,_,e,ex,_⟩:=I.hok p _ hk
   refine⟨⟨o,e,ex.1⟩,λa e2=>?_⟩
   cases e2
   exact⟨o,e,ex.2.1⟩
 | _=>exact False.elim ty
def tBM0(K:W.Frag)(T:String)(r:V->List V->Hp->VK->Prop)(to:TE):TE:=λσ H Q=>to σ H λx H1=>tyV K T x H1/\r x [] H1 Q
def tBM(K:W.Frag)(T:String)(r:V->List V->Hp->VK->Prop)(to:TE)(t:TA):TE:=λσ H Q=>to σ H λx H1=>tyV K T x H1/\t σ H1 λxs H2=>r x xs H2 Q
variable {o e:Expr}{es:List Expr}{to:TE}{t:TA}{name:Str}{apos cpos:Pos}{T id:String}{r:V->List V->Hp->VK->Prop}
theorem Znn(pa:PlainAttrs T)(slot:Slot T name id)(hty:typeOf (.builtin id)=pure (.type "method_descriptor"))(hm:MtR X id r)(ho:PE X o to)
  (hbase:attributeBase o name X.env (eval o X.env)=eval o X.env:=by rfl) (hline:(apos.endLine == cpos.line)=true:=by rfl):PE X (.Call (.Attribute o name apos) [] [] cpos) (tBM0 X.K T r to):=by
 intro pins s σ H Q I h
 refine wpAny_Call_method0_late hbase hline (thn (ho pins s σ H _ I h) λv s1 ⟨x,H1,I1,r1,ty,q1⟩=>?_)
 obtain⟨h1,h2⟩:=Zlw I1 r1 ty
 exact⟨T,id,pa,slot,hty,h1,h2,Calls.callWith_builtin rfl (PySem.evalArgs_none (hm pins s1 σ H1 x [] v [] Q I1 r1 .nil q1))⟩
theorem Zo0(pa:PlainAttrs T)(slot:Slot T name id)(hty:typeOf (.builtin id)=pure (.type "method_descriptor"))(hm:MtR X id r)(ho:PE X o to)(ha:PA X (e::es) t)
  (hbase:attributeBase o name X.env (eval o X.env)=eval o X.env:=by rfl)
  (hfew:((backTo cpos (starEach (e::es) X.env)).all (λx=>!x.1) && (backToKw cpos (keywordEach [] X.env)).all (λx=>x.1.isSome)
   && decide ((e::es).length+([]:List Keyword).length+(if ([]:List Keyword).isEmpty then 0 else 1)<30))=true:=by rfl)
  (hline:(apos.endLine == cpos.line)=true:=by rfl) (hs:starEach (e::es) X.env=(false,eval e X.env)::starEach es X.env:=by rfl) (hplain:(backTo cpos (starEach es X.env)).any (·.1)=false:=by rfl) :
  PE X (.Call (.Attribute o name apos) (e::es) [] cpos) (tBM X.K T r to t):=by
 intro pins s σ H Q I h
 refine wpAny_Call_method_late hbase hfew hline rfl (thn (ho pins s σ H _ I h) λv s1 ⟨x,H1,I1,r1,ty,q1⟩=>?_)
 obtain⟨h1,h2⟩:=Zlw I1 r1 ty
 refine⟨T,id,pa,slot,hty,h1,h2,?_⟩
 have hA:=ha cpos pins s1 σ H1 _ I1 q1
 rw[hs] at hA ⊢
 refine Calls.callWith_builtin (by show (false || (backTo cpos (starEach es X.env)).any (·.1))=false;rw[hplain]<;>rfl) (Calls.evalArgs_plain ?_)
 exact thn hA λus s2 ⟨vs,H2,I2,r2,q2⟩=>hm pins s2 σ H2 x vs v us Q I2 r1 r2 q2
end
end L2
namespace L2
open PySem PySem.Spec PyProof.Rows
def MtM(X:Cx)(id:String)(r:V->List V->Hp->VK->Prop):Prop :=
 ∀ (pins:List (Addr×Obj)) (s:Shared) (σ:St) (H:Hp) (x:V) (xs:List V) (v:Value) (us:List Value) (Q:VK),Inv X pins σ H s->RelV x v->Vals xs us->r x xs H Q ->
  wpAny (model X.prog X.w) X.A (call (.builtin id) (v::us)) (EP X pins σ Q) X.xe s
theorem Vals.one:∀ {x:V} {us:List Value},Vals [x] us->∃ u,us=[u]/\RelV x u
 | _,_,.cons r .nil=>⟨_,rfl,r⟩
theorem Vals.zero:∀ {us:List Value},Vals [] us->us=[]
 | _,.nil=>rfl
theorem Vals.reverse{xs:List V}{us:List Value}(h:Vals xs us):Vals xs.reverse us.reverse:=by
 induction h with
 | nil=>exact .nil
 | cons r t ih=>rw[List.reverse_cons,List.reverse_cons];exact Vals.append ih (.cons r .nil)
theorem Vals.rep{xs:List V}{us:List Value}(h:Vals xs us):∀ k:Nat,Vals (List.replicate k xs).flatten (List.replicate k us).flatten
 | 0=>.nil
 | k+1=>by
  rw[List.replicate_succ,List.replicate_succ,List.flatten_cons,List.flatten_cons]
  exact Vals.append h (Vals.rep h k)
theorem ZfY(its:List Value):∀ (k:Nat) (acc:List Value),
  List.foldl (λx1 x2=>x1++x2) acc.toArray (List.replicate k its.toArray)=(acc++(List.replicate k its).flatten).toArray
 | 0,acc=>by simp
 | k+1,acc=>by
  have e:acc.toArray++its.toArray=(acc++its).toArray:=by simp
  have e2:(acc++its)++(List.replicate k its).flatten=acc++(List.replicate (k+1) its).flatten:=by
   rw[List.replicate_succ,List.flatten_cons,List.append_assoc]
  rw[<- e2,<- ZfY its k (acc++its),<- e,List.replicate_succ,List.foldl_cons]
section
variable {X:Cx}{pins:List (Addr×Obj)}{σ:St}{H:Hp}{s:Shared}{l:Addr}{xs ys:List V}
theorem Inv.lset{its its':List Value}{n:Nat}{f:Array Value->Array Value}{t':Nat}(I:Inv X pins σ H s)(hH:H l=some (.lst xs))
  (e:s.heap.get? l=some { cls:=.type "list",data:=.seq its.toArray n }) (hf:f its.toArray=its'.toArray) (hv:Vals ys its') (hz:ys.length<=sizeLine) :
  Inv X pins σ (upd H l (.lst ys)) { s with heap:=s.heap.update l (Obj.mapSeq f),toks:=t' }:=by
 have q:=PySem.IsL.update e f
 rw[hf] at q
 refine I.write (x:=l) (e:=l) (by rw[hH];exact trivial) (.inl rfl) (λb' u hb hu=>(Heap.get?_update_other s.heap (Obj.mapSeq f) (Ne.symm hb)).trans hu) ⟨_,q⟩ ?_
 exact⟨hz,its',_,hv,q⟩
theorem Inv.lnew{its:List Value}{t':Nat}(I:Inv X pins σ H s)(hv:Vals ys its)(hz:ys.length<=sizeLine) :
  Inv X pins σ (upd H s.heap.objs.size (.lst ys)) { s with heap:=s.heap.push { cls:=.type "list",data:=.seq its.toArray },toks:=t' } :=
 I.laid (λ_ _ q=>Heap.get?_push_of_some _ q) (Nat.le_refl _) ⟨hz,its,0,hv,Heap.get?_push_size _ rfl⟩
theorem Inv.fresh(I:Inv X pins σ H s):H s.heap.objs.size=none:=I.hok.fresh (Nat.le_refl _)
theorem Inv.lstM(I:Inv X pins σ H s)(hH:H l=some (.lst xs)):xs.length<=sizeLine/\∃ (its:List Value) (n:Nat),Vals xs its/\xs.length=its.length/\s.heap.get? l=some { cls:=.type "list",data:=.seq its.toArray n }:=by
 obtain⟨z,its,n,r,e⟩:=I.hok l _ hH
 exact⟨z,its,n,r,r.length,e⟩
theorem notLongL{n:Nat}(h:n<=sizeLine):Builtin.List.listTooLong n=false:=by
 unfold Builtin.List.listTooLong
 exact decide_eq_false (by omega)
end
section
variable {X:Cx}
def rAppend:V->List V->Hp->VK->Prop:=λx vs H Q=>∃ l xs y,x=.ref l/\vs=[y]/\H l=some (.lst xs)/\xs.length<sizeLine/\Q .non (upd H l (.lst (xs++[y])))
theorem Za0:MtM X "list.append" rAppend:=by
 intro pins s σ H x vs v us Q I rx rv h
 obtain⟨l,xs,y,rfl,rfl,hH,hz,q⟩:=h
 cases rx
 obtain⟨u,rfl,ru⟩:=rv.one
 obtain⟨z,its,n,r,hl,e⟩:=I.lstM hH
 refine call_meets F.slot_list_append ⟨_,e,rfl⟩ F.entry_list_append (F.args_list_append_2 _ _) (PySem.list_append l its.toArray n u (by rw[List.size_toArray];omega)) ⟨e,?_⟩
 refine⟨.non,_,I.lset (its':=its++[u]) hH e (by simp) (r.append (.cons ru .nil)) ?_,rfl,q⟩
 rw[List.length_append,List.length_singleton]
 omega
def rExtend:V->List V->Hp->VK->Prop:=λx vs H Q=>∃ l b xs zs,x=.ref l/\vs=[.ref b]/\H l=some (.lst xs)/\H b=some (.lst zs)/\xs.length+zs.length<=sizeLine/\Q .non (upd H l (.lst (xs++zs)))
theorem ZiS:MtM X "list.extend" rExtend:=by
 intro pins s σ H x vs v us Q I rx rv h
 obtain⟨l,b,xs,zs,rfl,rfl,hH,hB,hz,q⟩:=h
 cases rx
 obtain⟨u,rfl,ru⟩:=rv.one
 cases ru
 obtain⟨z,its,n,r,hl,e⟩:=I.lstM hH
 obtain⟨z2,its2,n2,r2,hl2,e2⟩:=I.lstM hB
 have hsz:its.toArray.size+its2.toArray.size<=sizeLine:=by rw[List.size_toArray,List.size_toArray];omega
 have hlong:¬ (!its.toArray.isEmpty && Builtin.List.listTooLong (its.toArray.size+its2.toArray.size))=true:=by
  rw[notLongL hsz,Bool.and_false]
  exact Bool.false_ne_true
 refine call_meets F.slot_list_extend ⟨_,e,rfl⟩ F.entry_list_extend (F.args_list_extend_2 _ _)
  (AutoSeq1.list_extend_list_list_0 l its.toArray n b its2.toArray n2 hlong (by rw[List.size_toArray];omega) (by omega)) ⟨e,e2,?_⟩
 refine⟨.non,_,I.lset (its':=its++its2) hH e (by simp) (r.append r2) ?_,rfl,q⟩
 rw[List.length_append]
 omega
def rReverse:V->List V->Hp->VK->Prop:=λx vs H Q=>∃ l xs,x=.ref l/\vs=[]/\H l=some (.lst xs)/\Q .non (upd H l (.lst xs.reverse))
theorem Zie:MtM X "list.reverse" rReverse:=by
 intro pins s σ H x vs v us Q I rx rv h
 obtain⟨l,xs,rfl,rfl,hH,q⟩:=h
 cases rx
 have hus:=rv.zero
 subst hus
 obtain⟨z,its,n,r,hl,e⟩:=I.lstM hH
 refine call_meets F.slot_list_reverse ⟨_,e,rfl⟩ F.entry_list_reverse (F.args_list_reverse_1 _) (AutoSeq1.list_reverse_list_0 l its.toArray n (by rw[List.size_toArray];omega)) ⟨e,?_⟩
 refine⟨.non,_,I.lset (its':=its.reverse) hH e (by simp) r.reverse ?_,rfl,q⟩
 rw[List.length_reverse]
 omega
def rRep:R2:=λx y H Q=>∃ l k xs,x=.ref l/\y=.int k/\H l=some (.lst xs)/\-(2 ^ 63)<=k/\k<2 ^ 63/\xs.length*k.toNat<=sizeLine /\
 ∀ p,H p=none->Q (.ref p) (upd H p (.lst (List.replicate k.toNat xs).flatten))
theorem Zl1{α:Type}(xs:List α)(k:Nat):(List.replicate k xs).flatten.length=k*xs.length:=by
 induction k with
 | zero=>simp
 | succ k ih=>rw[List.replicate_succ,List.flatten_cons,List.length_append,ih,Nat.succ_mul,Nat.add_comm]
theorem Zno:OpR X (binaryOp .Mult) rRep:=by
 intro pins s σ H x y v u Q I rx ry h
 obtain⟨l,k,xs,rfl,rfl,hH,h1,h2,hz,q⟩:=h
 cases rx
 obtain⟨t,rfl⟩:=ry
 obtain⟨z,its,n,r,hl,e⟩:=I.lstM hH
 have hlen:its.toArray.size*k.toNat<=sizeLine:=by rw[List.size_toArray,<- hl];exact hz
 have hcap:¬ its.toArray.size*k.toNat > (2 ^ 63-1) / 8:=by
  have:(sizeLine:Nat)<=(2 ^ 63-1) / 8:=by decide
  omega
 have hfit:¬ (!Builtin.List.listFitsIndex k)=true:=by
  rw[fitsIndex_both h1 h2]
  exact Bool.false_ne_true
 have hlong:¬ Builtin.List.listTooLong (its.toArray.size*k.toNat)=true:=by
  rw[notLongL hlen]
  exact Bool.false_ne_true
 have hnew:List.foldl (λx1 x2=>x1++x2) #[] (List.replicate (if its.toArray.isEmpty=true then 0 else k.toNat) its.toArray)=(List.replicate k.toNat its).flatten.toArray:=by
  have f0:∀ m:Nat,List.foldl (λx1 x2=>x1++x2) #[] (List.replicate m its.toArray)=(List.replicate m its).flatten.toArray:=λm=>by
   have:=ZfY its m []
   rw[List.nil_append] at this
   exact this
  rw[f0]
  cases its with
  | nil=>simp
  | cons a r'=>rw[if_neg (by simp)]
 refine wpAny_binaryOp_repeat_ref (T := "list") (U := "int") (by decide) ⟨_,e,rfl⟩ (λs'=>typeIs_int s' k t) noFill_list_mul F.fills_int_mul F.slot_int_rmul repeat_list F.slot_int_index.lookup
  (call_meets F.slot_int_rmul (typeIs_int s k t) F.entry_int_rmul (F.args_int_rmul_2 _ _) (int___rmul___int_list k t l its.toArray n)
   ⟨e,rfl,⟨_,e,rfl⟩,call_meets F.slot_list_mul ⟨_,e,rfl⟩ F.entry_list_mul (F.args_list_mul_2 _ _) (AutoListH.list___mul___list_int_3 l its.toArray n k t hfit hcap hlong) ⟨e,?_⟩⟩)
 rw[hnew]
 exact⟨.ref _,_,I.lnew (t':=s.toks) (r.rep k.toNat) (by rw[Zl1,Nat.mul_comm];exact hz),rfl,q _ I.fresh⟩
end
end L2
namespace Att
open PySem PySem.W PySem.Calls PyProof.Rows
theorem Zd2{P:Params}{h:Heap}:∀ (ns:List Int) (vs:List Value),WellAll P h vs (ns.map WData.int)->IntsAre vs ns:=by
 intro ns
 induction ns with
 | nil =>
  intro vs w
  rw[List.map_nil] at w
  cases w
  exact .nil
 | cons n ns ih =>
  intro vs w
  rw[List.map_cons] at w
  cases w with
  | cons a b =>
   cases a
   exact .cons _ _ (ih _ b)
theorem ZiT{l:OpenLaw}{n:Nat}(hn:l.most=some n){P:Params}{h:Heap}{args:List WData}{vals:List Value}
  (hpre:l.row.toRowW.claim.pre args=true) (hwl:WellAll P h vals args) :
  ∃ a vs ns,vals=[Value.ref a]/\args=[WData.list (ns.map WData.int)]/\h.get? a=some { cls:=.type "list",data:=.seq vs.toArray }/\IntsAre vs ns/\ns.length<=n:=by
 have hsh:WShape.hasAll [] args [.list .int]=true:=(pre_splitW hpre).1
 have hc:l.pre.holds [] { args:=args }=true:=(pre_splitW hpre).2
 obtain⟨d,r,rfl,h1,h2⟩:=hasAllW_cons hsh
 obtain rfl:=hasAllW_nil h2
 obtain⟨xs,rfl,h3⟩:=hasW_list h1
 obtain⟨ns,rfl⟩:=items_int h3
 have hlen:ns.length<=n:=by
  unfold OpenLaw.pre at hc
  have h4:(WTm.not (.lt (.lit (.int (n:Int))) (.len (.arg 0)))).holds [] { args:=[.list (ns.map .int)] }=true:=by
   have h4:=(holds_andW hc).1
   rw[hn] at h4
   exact h4
  have h5:=condW_of h4 (w_not (w_lt w_lit (w_len_list (w_arg rfl))))
  rw[List.length_map] at h5
  refine Nat.le_of_not_lt λq=>?_
  have q':(n:Int)<((ns.length:Nat):Int):=by omega
  first
   | (rw[decide_eq_true q'] at h5;exact absurd h5 (by decide))
   | (simp at h5;omega)
 cases hwl with
 | cons w1 w2 =>
  cases w2
  cases w1 with
  | list ho hall=>exact⟨_,_,ns,rfl,rfl,ho,Zd2 ns _ hall,hlen⟩
theorem ZiU(l:OpenLaw)(args:List WData):l.row.toRowW.claim.post args (.bool true) args=true :=
 postW_of (r:=l.row.toRowW) (X:=(true == true))
  (show WShape.has [] (.bool true) .bool=true by first|rfl|decide|simp[WShape.has,WShape.arms,WShape.armsAll])
  (show (WTm.eq .res (.lit (.bool true))).value [] { args:=args,res:=some (.bool true),after:=args }=some (.bool (true == true)) from w_eq_bool (w_res rfl) w_lit) rfl
end Att
namespace L2
open PySem PySem.Spec PyProof.Rows
theorem ZfZ:∀ {vs:List Value} {ns:List Int},IntsAre vs ns->Vals (ns.map V.int) vs
 | _,_,.nil=>.nil
 | _,_,.cons n t h=>.cons ⟨t,rfl⟩ (ZfZ h)
end L2
namespace L2
open PySem PySem.Spec PyProof.Rows
def defArgs(s:Stmt):Arguments:=match s with
 | .FunctionDef _ a _ _ _ _ _ _ _ _=>a
 | _=>{ posonlyargs:=[],args:=[],vararg:=none,kwonlyargs:=[],kw_defaults:=[],kwarg:=none,defaults:=[] }
def defBody(s:Stmt):List Stmt:=match s with
 | .FunctionDef _ _ b _ _ _ _ _ _ _=>b
 | _=>[]
def defScope(s:Stmt):Scope:=match s with
 | .FunctionDef _ _ _ _ _ _ sc _ _ _=>sc
 | _=>{ kind:=.function,names:=[],isGenerator:=false,isCoroutine:=false }
abbrev CX0:CXT:=λ_ _ _ _ _ _=>False
abbrev E0:XK:=λ_ _ _=>False
theorem pass0{X:Cx}:Passes CX0 X E0:=λ_ _ _ _ _ _ _ h=>h.elim
theorem small1000{n:Nat}(h:n<=1000):n<sizeLine:=Nat.lt_of_le_of_lt h (by decide)
section
variable {X:Cx}
theorem pv(i:Nat){x:Str}{pos:Pos}(hN:X.N[i]?=some x:=by rfl)(hv:Vis X.env.scope x:=by first|exact Or.inl rfl|exact Or.inr (Or.inl rfl)|exact Or.inr (Or.inr rfl))(hd:(x == ("__debug__" : Str))=false:=by decide)
  (hcd:(x == ("__classdict__" : Str))=false:=by decide):PE X (.Name x pos) (tVar i):=Zlt hN hv hd hcd
end
theorem iteF{A B:Prop}(h:B):if false=true then A else B:=by
 rw[if_neg Bool.false_ne_true]
 exact h
theorem ite2{c A B:Prop}[Decidable c](h1:c->A)(h2:¬ c->B):if c then A else B:=by
 by_cases h:c
 ·rw[if_pos h]
  exact h1 h
 ·rw[if_neg h]
  exact h2 h
theorem iteNS{c A B:Prop}[Decidable c](hc:c)(h:B):if (!decide c)=true then A else B:=by
 rw[decide_eq_true hc]
 exact iteF h
def Same(H H':Hp):Prop:=∀ b o,H b=some o->H' b=some o
theorem Same.refl(H:Hp):Same H H:=λ_ _ h=>h
theorem Same.trans{H H1 H2:Hp}(a:Same H H1)(b:Same H1 H2):Same H H2:=λc o h=>b c o (a c o h)
theorem Same.free{H H':Hp}(e:Same H H'){l:Addr}(h:H' l=Option.none):H l=Option.none:=by
 cases q:H l with
 | none=>rfl
 | some o =>
  rw[e l o q] at h
  cases h
theorem Same.seq{K:W.Frag}{H H':Hp}{a:Addr}{xs:List V}(e:Same H H')(h:SqL K H a xs):SqL K H' a xs:=by
 rcases h with (h|⟨o,h⟩)|h
 ·exact .inl (.inl (e _ _ h))
 ·exact .inl (.inr ⟨o,e _ _ h⟩)
 ·exact .inr h
end L2
namespace L2
open PySem PySem.Spec PyProof.Rows
section
variable {κ:Type}[DecidableEq κ]
def valV(kvs:List (κ×V))(k:κ):Option V:=(kvs.find? λkv=>decide (kv.1=k)).map (·.2)
def putK(kvs:List (κ×V))(k:κ)(v:V):List (κ×V) :=
 if (kvs.any λkv=>decide (kv.1=k))=true then kvs.map (λkv=>if kv.1=k then (kv.1,v) else kv) else kvs++[(k,v)]
theorem Zc8{p:κ×V}{r:List (κ×V)}{k:κ}(e:p.1=k):valV (p::r) k=some p.2:=by simp[valV,List.find?_cons,e]
theorem Zc9{p:κ×V}{r:List (κ×V)}{k:κ}(e:¬ p.1=k):valV (p::r) k=valV r k:=by simp[valV,List.find?_cons,e]
theorem ZdS(k:κ):∀ kvs:List (κ×V),(kvs.any λkv=>decide (kv.1=k))=(valV kvs k).isSome
 | []=>rfl
 | p::r=>by
  rw[List.any_cons]
  by_cases e:p.1=k
  ·simp only[Zc8 e,decide_eq_true e,Bool.true_or,Option.isSome_some]
  ·rw[Zc9 e,decide_eq_false e,Bool.false_or];exact ZdS k r
theorem Zbh(kvs:List (κ×V))(k:κ)(v:V):(putK kvs k v).length<=kvs.length+1:=by
 unfold putK
 split
 ·rw[List.length_map];omega
 ·rw[List.length_append,List.length_cons,List.length_nil];omega
theorem RelO.isSome_eq{o:Option V}{u:Option Value}(r:RelO o u):o.isSome=u.isSome:=by
 cases o with
 | none=>cases u with
  | none=>rfl
  | some _=>exact (show False from r).elim
 | some _=>cases u with
  | none=>exact (show False from r).elim
  | some _=>rfl
theorem KV.val{kvs:List (κ×V)}{vs:List (κ×Value)}(r:KV kvs vs)(k:κ):RelO (valV kvs k) (valueAt vs k):=by
 unfold KV at r
 induction r with
 | nil=>exact True.intro
 | @cons p q ps qs h t ih =>
  obtain⟨h1,h2⟩:=h
  by_cases e:p.1=k
  ·have e':q.1=k:=h1.symm.trans e
   have b:valueAt (q::qs) k=some q.2:=by simp[valueAt,List.find?_cons,e']
   rw[Zc8 e,b];exact h2
  ·have e':¬ q.1=k:=λz=>e (h1.trans z)
   have b:valueAt (q::qs) k=valueAt qs k:=by simp[valueAt,List.find?_cons,e']
   rw[Zc9 e,b];exact ih
theorem KV.any{kvs:List (κ×V)}{vs:List (κ×Value)}(r:KV kvs vs)(k:κ):(kvs.any λkv=>decide (kv.1=k))=vs.any λkv=>decide (kv.1=k):=by
 unfold KV at r
 induction r with
 | nil=>rfl
 | cons h t ih=>rw[List.any_cons,List.any_cons,ih,h.1]
theorem KV.repl{kvs:List (κ×V)}{vs:List (κ×Value)}(r:KV kvs vs)(k:κ){y:V}{u:Value}(ry:RelV y u) :
  KV (kvs.map λkv=>if kv.1=k then (kv.1,y) else kv) (vs.map λkv=>if kv.1=k then (kv.1,u) else kv):=by
 unfold KV at r ⊢
 induction r with
 | nil=>exact .nil
 | @cons p q ps qs h t ih =>
  rw[List.map_cons,List.map_cons]
  refine .cons ?_ ih
  obtain⟨h1,h2⟩:=h
  by_cases e:p.1=k
  ·rw[if_pos e,if_pos (h1.symm.trans e)];exact⟨h1,ry⟩
  ·rw[if_neg e,if_neg (λz=>e (h1.trans z))];exact⟨h1,h2⟩
theorem KV.put{kvs:List (κ×V)}{vs:List (κ×Value)}(r:KV kvs vs)(k:κ){y:V}{u:Value}(ry:RelV y u):KV (putK kvs k y) (stored vs k u):=by
 unfold putK stored
 rw[r.any k]
 by_cases e:(vs.any λkv=>decide (kv.1=k))=true
 ·rw[if_pos e,if_pos e];exact r.repl k ry
 ·rw[if_neg e,if_neg e];exact Paired.snoc r ⟨rfl,ry⟩
theorem KV.length{kvs:List (κ×V)}{vs:List (κ×Value)}(r:KV kvs vs):kvs.length=vs.length:=Paired.length r
end
theorem ZgG{P:Program}{w:World}{k:Key}{u:Value}(r:RelV (kV k) u):(mixKind P w).is k u=true:=by
 cases k with
 | inl i=>obtain⟨t,e⟩:=(show ∃ t,u=Value.int i t from r);subst e;exact ZgC P w i t
 | inr x=>obtain⟨t,e⟩:=(show ∃ t,u=Value.str x t from r);subst e;exact ZgD P w x t
theorem Zf0{P:Program}{w:World}:∀ {ks:List Key} {us:List Value},Vals (ks.map kV) us->ItemsAre (mixKind P w) ks us
 | [],_,r=>by rw[List.map_nil] at r;cases r;exact .nil
 | k::ks,_,r=>by
  rw[List.map_cons] at r
  cases r with
  | cons h t=>exact .cons (ZgG h) (Zf0 t)
abbrev KT(H:Hp):List (List Key×V)->List (List Key×Addr×Value)->Prop:=Paired λp q=>p.1=q.1/\H q.2.1=some (.tup (p.1.map kV))/\RelV p.2 q.2.2
theorem KT.val{H:Hp}{kvs:List (List Key×V)}{xs:List (List Key×Addr×Value)}(r:KT H kvs xs)(k:List Key):RelO (valV kvs k) ((atKey xs k).map (·.2)):=by
 induction r with
 | nil=>exact True.intro
 | @cons p q ps qs h t ih =>
  obtain⟨h1,_,h2⟩:=h
  by_cases e:p.1=k
  ·have e':q.1=k:=h1.symm.trans e
   have b:atKey (q::qs) k=some q.2:=by simp[atKey,List.find?_cons,e']
   rw[Zc8 e,b];exact h2
  ·have e':¬ q.1=k:=λz=>e (h1.trans z)
   have b:atKey (q::qs) k=atKey qs k:=by simp[atKey,List.find?_cons,e']
   rw[Zc9 e,b];exact ih
theorem KT.repl{H:Hp}{kvs:List (List Key×V)}{xs:List (List Key×Addr×Value)}(r:KT H kvs xs)(k:List Key){y:V}{u:Value}(ry:RelV y u) :
  KT H (kvs.map λkv=>if kv.1=k then (kv.1,y) else kv) (xs.map (putAt k u)):=by
 induction r with
 | nil=>exact .nil
 | @cons p q ps qs h t ih =>
  rw[List.map_cons,List.map_cons]
  refine .cons ?_ ih
  obtain⟨h1,h2,h3⟩:=h
  unfold putAt
  by_cases e:p.1=k
  ·rw[if_pos e,if_pos (h1.symm.trans e)];exact⟨h1,h2,ry⟩
  ·rw[if_neg e,if_neg (λz=>e (h1.trans z))];exact⟨h1,h2,h3⟩
theorem KT.put{H:Hp}{kvs:List (List Key×V)}{xs:List (List Key×Addr×Value)}(r:KT H kvs xs)(k:List Key){b:Addr}{y:V}{u:Value}(hb:H b=some (.tup (k.map kV)))(ry:RelV y u) :
  KT H (putK kvs k y) (storedH xs k b u):=by
 have e:(kvs.any λkv=>decide (kv.1=k))=(atKey xs k).isSome:=by
  rw[ZdS,(r.val k).isSome_eq,Option.isSome_map]
 unfold putK storedH
 rw[e]
 by_cases q:(atKey xs k).isSome=true
 ·rw[if_pos q,if_pos q];exact r.repl k ry
 ·rw[if_neg q,if_neg q];exact Paired.snoc r ⟨rfl,hb,ry⟩
theorem KT.keeps{H H':Hp}{kvs:List (List Key×V)}{xs:List (List Key×Addr×Value)}(r:KT H kvs xs)(ht:∀ b ys,H b=some (.tup ys)->H' b=some (.tup ys)):KT H' kvs xs :=
 Paired.mapP r λ_ _ z=>⟨z.1,ht _ _ z.2.1,z.2.2⟩
section
variable {P:Program}{w:World}{H:Hp}{h:Heap}{a:Addr}
theorem Zl2{u:HO}(ok:HOk P w H h)(e:Rd H a u):ObjOk P w H h a u:=e.ok ok
theorem Zif{kvs:List (Key×V)}(ok:HOk P w H h)(e:Rd H a (.dK kvs)):kvs.length<=sizeLine/\(a == sysModules)=false/\∃ vs,KV kvs vs/\h.DictOf (mixKind P w) a vs :=
 show ObjOk P w H h a (.dK kvs) from Zl2 ok e
theorem Znp{kvs:List (Key×V)}(ok:HOk P w H h)(e:H a=some (.dK kvs)):kvs.length<=sizeLine/\(a == sysModules)=false/\∃ vs,KV kvs vs/\h.DictOf (mixKind P w) a vs:=Zif ok (.inl e)
theorem Zd3{ks:List Key}(ok:HOk P w H h)(e:H a=some (.tup (ks.map kV))):(tupleKind (mixKind P w)).is h ks a:=by
 obtain⟨_,its,r,o,h1,h2,⟨n,h3⟩,_⟩:=(show ObjOk P w H h a (.tup (ks.map kV)) from ok a _ e)
 exact⟨o,its.toArray,n,h1,h2,h3,by simpa using Zf0 r⟩
theorem Zig{kvs:List (List Key×V)}(ok:HOk P w H h)(e:Rd H a (.dT kvs)):kvs.length<=sizeLine/\(a == sysModules)=false /\
  ∃ xs,KT H kvs xs/\h.DictOfH (tupleKind (mixKind P w)) a xs:=by
 obtain⟨z,y,xs,r,o,es,ep,h1,h2,h3,h4,h5⟩:=(show ObjOk P w H h a (.dT kvs) from Zl2 ok e)
 refine⟨z,y,xs,r,o,es,ep,h1,h2,h3,h4,λx hx=>?_,h5⟩
 have all:∀ {l:List (List Key×V)} {m:List (List Key×Addr×Value)},KT H l m->∀ x∈m,(tupleKind (mixKind P w)).is h x.1 x.2.1:=by
  intro l m q
  induction q with
  | nil=>intro x hx;exact nomatch hx
  | @cons p q ps qs hq t ih =>
   intro x hx
   rcases List.mem_cons.mp hx with e|hx
   ·subst e
    exact Zd3 ok (by rw[<- hq.1];exact hq.2.1)
   ·exact ih x hx
 exact all r x hx
theorem Znq{kvs:List (List Key×V)}(ok:HOk P w H h)(e:H a=some (.dT kvs)):kvs.length<=sizeLine/\(a == sysModules)=false /\
  ∃ xs,KT H kvs xs/\h.DictOfH (tupleKind (mixKind P w)) a xs:=Zig ok (.inl e)
end
def DGet(H:Hp)(a:Addr)(y:V)(r:Option V):Prop :=
 (∃ kvs k,Rd H a (.dK kvs)/\y=kV k/\r=valV kvs k)\/∃ kvs k b,Rd H a (.dT kvs)/\y=.ref b/\H b=some (.tup (k.map kV))/\r=valV kvs k
def DPut(H:Hp)(a:Addr)(y v:V)(H':Hp):Prop :=
 (∃ kvs k,H a=some (.dK kvs)/\y=kV k/\kvs.length<sizeLine/\H'=upd H a (.dK (putK kvs k v))) \/
 ∃ kvs k b,H a=some (.dT kvs)/\y=.ref b/\H b=some (.tup (k.map kV))/\kvs.length<sizeLine/\H'=upd H a (.dT (putK kvs k v))
theorem DPut.k{H:Hp}{a:Addr}{kvs:List (Key×V)}{k:Key}{v:V}(e:H a=some (.dK kvs))(hl:kvs.length<sizeLine):DPut H a (kV k) v (upd H a (.dK (putK kvs k v))):=.inl ⟨kvs,k,e,rfl,hl,rfl⟩
theorem DPut.t{H:Hp}{a b:Addr}{kvs:List (List Key×V)}{k:List Key}{v:V}(e:H a=some (.dT kvs))(eb:H b=some (.tup (k.map kV)))(hl:kvs.length<sizeLine) :
  DPut H a (.ref b) v (upd H a (.dT (putK kvs k v))):=.inr ⟨kvs,k,b,e,rfl,eb,hl,rfl⟩
section
variable {X:Cx}{pins:List (Addr×Obj)}{σ:St}{H:Hp}{s:Shared}{a:Addr}{y v:V}{u r:Value}{o:Option V}{A:Around}{E:Value->Shared->Prop}
theorem Inv.big(I:Inv X pins σ H s):sysModules<s.heap.objs.size:=by
 have h:mainGlobals<s.heap.objs.size:=(I.mod.glob.keeps I.bk).lt
 exact Nat.lt_trans (by decide) h
theorem ZiV{Q:Value->Shared->Prop}(hu:A.units+1<cLine)(I:Inv X pins σ H s)(g:DGet H a y (some v))(ry:RelV y u)(h:∀ w' s',Inv X pins σ H s'->RelV v w'->Q w' s') :
  wpAny (model X.prog X.w) A (getItem (.ref a) u) Q E s:=by
 rcases g with⟨kvs,k,e,ey,l⟩|⟨kvs,k,b,e,ey,eb,l⟩
 ·subst ey
  obtain⟨z,hd,vs,rel,dd⟩:=Zif I.hok e
  obtain⟨w',hw,rw'⟩:=RelO.some_of (v:=v) (o:=valueAt vs k) (by rw[l];exact rel.val k)
  exact wpAny_getItem_of (ZgG ry) dd.mapOf hw (h w' _ (I.tok _) rw')
 ·subst ey
  cases (show u=Value.ref b from ry)
  obtain⟨z,hd,xs,rel,dd⟩:=Zig I.hok e
  obtain⟨w',hw,rw'⟩:=RelO.some_of (v:=v) (o:=(atKey xs k).map (·.2)) (by rw[l];exact rel.val k)
  obtain⟨p,hp,hp2⟩:=Option.map_eq_some_iff.mp hw
  refine wpAny_getItem_heap (tupleKind_room_in1 hu) (Zd3 I.hok eb) dd hp ?_
  rw[hp2]
  exact h w' _ (I.tok _) rw'
theorem Zl3{Q:Value->Shared->Prop}(hu:A.units+1<cLine)(I:Inv X pins σ H s)(g:DGet H a y o)(ry:RelV y u)(h:∀ s',Inv X pins σ H s'->Q (.bool (!o.isSome)) s') :
  wpAny (model X.prog X.w) A (compareOp .NotIn u (.ref a)) Q E s:=by
 rcases g with⟨kvs,k,e,ey,l⟩|⟨kvs,k,b,e,ey,eb,l⟩
 ·subst ey
  obtain⟨z,hd,vs,rel,dd⟩:=Zif I.hok e
  refine wpAny_notIn_of (ZgG ry) hd dd.mapOf ?_
  rw[<- (rel.val k).isSome_eq,<- l]
  exact h _ (I.tok _)
 ·subst ey
  cases (show u=Value.ref b from ry)
  obtain⟨z,hd,xs,rel,dd⟩:=Zig I.hok e
  refine wpAny_notIn_heap (tupleKind_room_in1 hu) (Zd3 I.hok eb) hd dd ?_
  have q:=(rel.val k).isSome_eq
  rw[Option.isSome_map] at q
  rw[<- q,<- l]
  exact h _ (I.tok _)
theorem Zbr{h':Heap}{t':Nat}{ob:HO}(I:Inv X pins σ H s)(mu:Mut (H a))(hs:Heap.SameBut a s.heap h')(he:∃ q,h'.get? a=some q)(new:ObjOk X.prog X.w (upd H a ob) h' a ob) :
  Inv X pins σ (upd H a ob) { s with heap:=h',toks:=t' } :=
 I.write (x:=a) (e:=a) mu (.inl rfl) (λb q hb z=>(hs.2 b hb).trans z) he new
theorem Zlx{P:Program}{w:World}{H':Hp}{h':Heap}{kvs:List (Key×V)}{vs:List (Key×Value)}(z:kvs.length<=sizeLine)(hd:(a == sysModules)=false)(rel:KV kvs vs)(dd:h'.DictOf (mixKind P w) a vs) :
  ObjOk P w H' h' a (.dK kvs):=⟨z,hd,vs,rel,dd⟩
theorem Zd4{H':Hp}{Q:Unit->Shared->Prop}(hu:A.units+1<cLine)(I:Inv X pins σ H s)(g:DPut H a y v H')(ry:RelV y u)(rv:RelV v r)(h:∀ s',Inv X pins σ H' s'->Q () s') :
  wpAny (model X.prog X.w) A (setItem (.ref a) u r) Q E s:=by
 rcases g with⟨kvs,k,e,ey,l,eH⟩|⟨kvs,k,b,e,ey,eb,l,eH⟩
 ·subst ey eH
  obtain⟨z,hd,vs,rel,dd⟩:=Znp I.hok e
  have hz:vs.length<=sizeLine:=by rw[<- rel.length];exact z
  have hl:(putK kvs k v).length<=sizeLine:=by have:=Zbh kvs k v;omega
  refine wpAny_setItem_pairs (hsz:=hz) (ZgG ry) dd λh' dd' hs=>h _ ?_
  have he:∃ q,h'.get? a=some q:=let ⟨q,_,_,hq,_⟩:=dd';⟨q,hq⟩
  exact Zbr I (by rw[e];exact True.intro) hs he (Zlx hl hd (rel.put k rv) dd')
 ·subst ey eH
  cases (show u=Value.ref b from ry)
  obtain⟨z,hd,xs,rel,dd⟩:=Znq I.hok e
  have hz:xs.length<=sizeLine:=by rw[<- Paired.length rel];exact z
  have hl:(putK kvs k v).length<=sizeLine:=by have:=Zbh kvs k v;omega
  refine wpAny_setItem_heap (hsz:=hz) (tupleKind_room_in1 hu) (Zd3 I.hok eb) dd λh' dd' hs=>h _ ?_
  obtain⟨q,es,ep,hq,h2,h3,h4,_,h5⟩:=dd'
  refine Zbr I (by rw[e];exact True.intro) hs ⟨q,hq⟩ ⟨hl,hd,_,(rel.put k eb rv).keeps λc ys ec=>?_,q,es,ep,hq,h2,h3,h4,h5⟩
  rw[Zah (ZfP ec e (λz=>nomatch z))]
  exact ec
end
theorem ZgH{X:Cx}{pins:List (Addr×Obj)}{σ:St}{H:Hp}{s:Shared}{a:Addr}{y:V}{o:Option V}(I:Inv X pins σ H s)(g:DGet H a y o):s.TypeIs (.ref a) "dict" := by
 rcases g with⟨kvs,k,e,_,_⟩|⟨kvs,k,b,e,_,_,_⟩
 ·obtain⟨_,_,vs,_,dd⟩:=Zif I.hok e
  exact dd.typeIs
 ·obtain⟨_,_,xs,_,dd⟩:=Zig I.hok e
  exact dd.typeIs
theorem Zhi{P:Program}{w:World}{H:Hp}(h:Heap)(hb:sysModules<h.objs.size):ObjOk P w H (h.push { cls:=.type "dict",data:=.dict #[] }) h.objs.size (.dK []) :=
 ⟨Nat.zero_le _,beq_eq_false_iff_ne.mpr (Ne.symm (Nat.ne_of_lt hb)),[],.nil,Heap.DictOf.new h⟩
def tDNewK:TE:=λ_ H Q=>∀ p,H p=none->Q (.ref p) (upd H p (.dK []))
section
variable {X:Cx}{pos:Pos}
theorem Zhj:PE X (.Dict [] [] pos) tDNewK:=λpins s σ H Q I h =>
 wpAny_Dict_empty ⟨.ref s.heap.objs.size,_,I.laid (a:=s.heap.objs.size) (o:=.dK []) (t':=s.toks) (λ_ _ q=>Heap.get?_push_of_some _ q) (Nat.le_refl _) (Zhi s.heap I.big),rfl,h _ (I.hok.fresh (Nat.le_refl _))⟩
end
end L2
section
namespace L2
open PySem PySem.Spec PyProof.Rows
theorem Zbw:∀ (names:List (Str×NameKind)) (n:Nat) (acc:List (Str×Addr)),
  (∀ x y c,acc.lookup x=some c->acc.lookup y=some c->x=y)->(∀ x c,acc.lookup x=some c->c<n) ->
  ∀ x y c,(cellsFrom n names acc).lookup x=some c->(cellsFrom n names acc).lookup y=some c->x=y
 | [],_,_,h,_=>h
 | (z,k)::r,n,acc,h,hb=>by
  unfold cellsFrom
  split
  ·refine Zbw r (n+1) ((z,n)::acc) ?_ ?_
   ·intro x y c hx hy
    rw[List.lookup_cons] at hx hy
    cases ex:x == z with
    | true =>
     rw[ex] at hx
     have e1:n=c:=Option.some.inj hx
     cases ey:y == z with
     | true=>rw[beq_iff_eq.mp ex,beq_iff_eq.mp ey]
     | false =>
      rw[ey] at hy
      have:=hb y c hy
      rw[<- e1] at this
      exact absurd this (Nat.lt_irrefl _)
    | false =>
     rw[ex] at hx
     cases ey:y == z with
     | true =>
      rw[ey] at hy
      have e1:n=c:=Option.some.inj hy
      have:=hb x c hx
      rw[<- e1] at this
      exact absurd this (Nat.lt_irrefl _)
     | false =>
      rw[ey] at hy
      exact h x y c hx hy
   ·intro x c hx
    rw[List.lookup_cons] at hx
    cases ex:x == z with
    | true =>
     rw[ex] at hx
     have e1:n=c:=Option.some.inj hx
     rw[<- e1]
     exact Nat.lt_succ_self n
    | false =>
     rw[ex] at hx
     exact Nat.lt_succ_of_lt (hb x c hx)
  ·exact Zbw r n acc h hb
theorem Zbx(x:Str)(lo:Nat):∀ (names:List (Str×NameKind)) (n:Nat) (acc:List (Str×Addr)),lo<=n ->
  ((x,NameKind.cell)∈names\/∀ c,acc.lookup x=some c->lo<=c)->∀ c,(cellsFrom n names acc).lookup x=some c->lo<=c
 | [],_,_,_,h=>h.elim (λz=>nomatch z) id
 | (z,k)::r,n,acc,hl,h=>by
  unfold cellsFrom
  split
  ·refine Zbx x lo r (n+1) ((z,n)::acc) (by omega) ?_
   by_cases ex:x=z
   ·refine .inr λc hc=>?_
    rw[List.lookup_cons,ex,beq_self_eq_true] at hc
    have:n=c:=Option.some.inj hc
    omega
   ·rcases h with h|h
    ·rcases List.mem_cons.mp h with e|h
     ·exact absurd (Prod.mk.inj e).1 ex
     ·exact .inl h
    ·refine .inr λc hc=>h c ?_
     rw[List.lookup_cons,beq_false_of_ne ex] at hc
     exact hc
  ·rename_i hk
   refine Zbx x lo r n acc hl ?_
   rcases h with h|h
   ·rcases List.mem_cons.mp h with e|h
    ·rw[<- (Prod.mk.inj e).2] at hk
     exact absurd rfl hk
    ·exact .inl h
   ·exact .inr h
theorem Zby{x:Str}:∀ (names:List (Str×NameKind)) (n:Nat) (acc:List (Str×Addr)),(∀ y∈names,y.1=x->y.2≠.cell)->(cellsFrom n names acc).lookup x=acc.lookup x
 | [],_,_,_=>rfl
 | (z,k)::r,n,acc,h=>by
  unfold cellsFrom
  split
  ·rename_i hk
   rw[Zby r (n+1) ((z,n)::acc) λy hy=>h y (List.mem_cons_of_mem _ hy),List.lookup_cons]
   have:x≠z:=λe=>h (z,k) List.mem_cons_self e.symm (by simpa using hk)
   rw[beq_false_of_ne this]
  ·exact Zby r n acc λy hy=>h y (List.mem_cons_of_mem _ hy)
theorem ZbN(x:Str):∀ (names:List (Str×NameKind)) (n:Nat) (acc:List (Str×Addr)) (c:Addr),(cellsFrom n names acc).lookup x=some c->n<=c\/acc.lookup x=some c
 | [],_,_,_,h=>.inr h
 | (z,k)::r,n,acc,c,h=>by
  unfold cellsFrom at h
  split at h
  ·rcases ZbN x r (n+1) ((z,n)::acc) c h with q|q
   ·exact .inl (by omega)
   ·rw[List.lookup_cons] at q
    cases ex:x == z with
    | true=>rw[ex] at q;have:n=c:=Option.some.inj q;exact .inl (by omega)
    | false=>rw[ex] at q;exact .inr q
  ·exact ZbN x r n acc c h
theorem Za3:∀ (names:List (Str×NameKind)) (h:Heap) (acc:List (Str×Addr)),(∀ x c,acc.lookup x=some c->∃ v,h.IsCell c v) ->
  ∀ x c,(cellsFrom h.objs.size names acc).lookup x=some c->∃ v,(pushCells h names).IsCell c v
 | [],_,_,h=>h
 | (z,k)::r,h,acc,ha=>by
  unfold cellsFrom pushCells
  split
  ·have:=Za3 r (h.push { cls:=.type "cell",data:=.cell none }) ((z,h.objs.size)::acc) (λx c hx=>by
    rw[List.lookup_cons] at hx
    cases ex:x == z with
    | true =>
     rw[ex] at hx
     cases hx
     exact⟨none,_,Heap.get?_push_size _ rfl,rfl⟩
    | false =>
     rw[ex] at hx
     obtain⟨v,q⟩:=ha x c hx
     exact⟨v,q.keeps λb o e=>Heap.get?_push_of_some _ e⟩)
   rwa [Heap.size_push] at this
  ·exact Za3 r h acc ha
theorem newEnvC{M:Model}{A:Around}{E:Value->Shared->Prop}{s:Shared}{scope:Scope}{globals:Addr}{cl:List (Str×Addr)}{qual:Str}{env:Env}{Q:Env->Shared->Prop}
  (hQ:Q (newEnv scope s.heap.objs.size globals (cellsFrom (s.heap.objs.size+1) scope.names cl) qual none .none (some env) builtinsNs)
   { s with heap:=pushCells (s.heap.push { cls:=.type "dict",data:=.dict #[] }) scope.names }) :
  wpAny M A (newFunctionEnv scope globals cl [] qual none .none (some env)) Q E s:=by
 simp only[newFunctionEnv,Option.isSome_some,if_true]
 refine wpAny_bind (wpAny_alloc ?_)
 refine wpAny_bind (wpAny_layCells _ (λname kind cells=>by cases hkc:kind == NameKind.cell<;>simp[hkc]) _ _ _ _ ?_)
 rw[show ({ s with heap:=s.heap.push { cls:=.type "dict",data:=.dict #[] } }:Shared).heap.objs.size=s.heap.objs.size+1 from Heap.size_push ..]
 rw[List.forIn_nil]
 exact wpAny_bind (wpAny_pure (wpAny_pure hQ))
theorem Zdw{env:Env}:∀ (l:List (Str×NameKind)) (acc:List (Str×Addr)),(∀ y∈l,y.2=.free->∃ c,env.cells.lookup y.1=some c) ->
  (∀ x c,acc.lookup x=some c->env.cells.lookup x=some c) ->
  ∃ cl,(forIn l acc λ(x:Str×NameKind) r=>if (x.2 == .free)=true then (do let a <- cellOf env x.1;pure (ForInStep.yield ((x.1,a)::r))) else pure (ForInStep.yield r):Sem (List (Str×Addr)))=pure cl /\
   (∀ x c,cl.lookup x=some c->env.cells.lookup x=some c)/\(∀ x,((∃ c,acc.lookup x=some c)\/(x,NameKind.free)∈l)->∃ c,cl.lookup x=some c)
 | [],acc,_,ha=>⟨acc,by rw[List.forIn_nil],ha,λx hx=>hx.elim id λz=>nomatch z⟩
 | (z,k)::r,acc,hl,ha=>by
  by_cases hk:k=.free
  ·subst hk
   obtain⟨c,hc⟩:=hl (z,.free) List.mem_cons_self rfl
   obtain⟨cl,h1,h2,h3⟩:=Zdw r ((z,c)::acc) (λy hy=>hl y (List.mem_cons_of_mem _ hy)) (λx c' hx=>by
    rw[List.lookup_cons] at hx
    cases ex:x == z with
    | true=>rw[ex] at hx;cases hx;rw[beq_iff_eq.mp ex];exact hc
    | false=>rw[ex] at hx;exact ha x c' hx)
   refine⟨cl,?_,h2,λx hx=>h3 x ?_⟩
   ·rw[List.forIn_cons]
    have e:cellOf env z=pure c:=by unfold cellOf;rw[show env.cells.lookup z=some c from hc]
    simp only[beq_self_eq_true,if_true,e]
    exact h1
   ·rcases hx with⟨c',hx⟩|hx
    ·refine .inl ?_
     rw[List.lookup_cons]
     cases ex:x == z with
     | true=>exact⟨c,rfl⟩
     | false=>exact⟨c',hx⟩
    ·rcases List.mem_cons.mp hx with e|hx
     ·refine .inl ⟨c,?_⟩
      rw[(Prod.mk.inj e).1,List.lookup_cons,beq_self_eq_true]
     ·exact .inr hx
  ·obtain⟨cl,h1,h2,h3⟩:=Zdw r acc (λy hy=>hl y (List.mem_cons_of_mem _ hy)) ha
   refine⟨cl,?_,h2,λx hx=>h3 x ?_⟩
   ·rw[List.forIn_cons]
    have e:(k == NameKind.free)=false:=by simpa using hk
    simp only[e,Bool.false_eq_true,if_false]
    exact h1
   ·rcases hx with hx|hx
    ·exact .inl hx
    ·rcases List.mem_cons.mp hx with e|hx
     ·exact absurd (Prod.mk.inj e).2.symm hk
     ·exact .inr hx
theorem ZeJ{scope:Scope}{env:Env}(h:∀ y∈scope.names,y.2=.free->∃ c,env.cells.lookup y.1=some c) :
  ∃ cl,closureFor scope env=pure cl/\(∀ x c,cl.lookup x=some c->env.cells.lookup x=some c)/\(∀ x,(x,NameKind.free)∈scope.names->∃ c,cl.lookup x=some c):=by
 obtain⟨cl,h1,h2,h3⟩:=Zdw scope.names [] h (λx c e=>by simp at e)
 refine⟨cl,?_,h2,λx hx=>h3 x (.inr hx)⟩
 unfold closureFor
 simp only[bind_pure]
 exact h1
def relabelS(scope sc:Scope):Scope :=
 { scope with names:=scope.names.map λ(n,k)=>if (k == .free && sc.kind == .function && sc.names.lookup n == some .cell) then (n,.cell) else (n,k) }
theorem ZeK(scope:Scope)(env:Env):relabel scope env=relabelS scope env.scope:=rfl
theorem ZcJ{α β:Type}(g:Str->α->β)(x:Str):∀ l:List (Str×α),(l.map λ(n,k)=>(n,g n k)).lookup x=(l.lookup x).map (g x)
 | []=>rfl
 | (n,k)::r=>by
  rw[List.map_cons,List.lookup_cons,List.lookup_cons]
  cases e:x == n with
  | true=>rw[beq_iff_eq.mp e];rfl
  | false=>exact ZcJ g x r
theorem Zcg(scope sc:Scope)(x:Str):(relabelS scope sc).names.lookup x=(scope.names.lookup x).map λk=>if (k == .free && sc.kind == .function && sc.names.lookup x == some .cell) then NameKind.cell else k:=by
 have e:(relabelS scope sc).names=scope.names.map λ(n,k)=>(n,if (k == .free && sc.kind == .function && sc.names.lookup n == some .cell) then NameKind.cell else k):=by
  unfold relabelS
  refine List.map_congr_left λy _=>?_
  obtain⟨n,k⟩:=y
  show (if _ then _ else _)=(n,if _ then _ else _)
  split<;>rfl
 rw[e]
 exact ZcJ (λn k=>if (k == .free && sc.kind == .function && sc.names.lookup n == some .cell) then NameKind.cell else k) x scope.names
def capOk(N0:List Str)(sc0 scope:Scope):List Str->List (Option Nat)->Bool
 | [],[]=>true
 | x::N,none::c=>capOk N0 sc0 scope N c
 | x::N,some j::c=>(N0[j]? == some x) && (sc0.names.lookup x == some .cell || sc0.names.lookup x == some .free) && (scope.names.lookup x == some .free) && (scope.names.all λy=>y.1 != x || y.2 != .cell) && capOk N0 sc0 scope N c
 | _,_=>false
def compOk(N0:List Str)(sc0 scope:Scope)(N:List Str)(cap:List (Option Nat)):Bool :=
 (scope.kind == .function) && (scope.names.all λy=>y.2 != .local || scope.names.lookup y.1 == some .local) && (scope.names.all λy=>y.2 != .free || (sc0.names.lookup y.1 == some .cell || sc0.names.lookup y.1 == some .free)) &&
 (scope.names.all λy=>y.2 != .cell || scope.names.lookup y.1 == some .cell) && capOk N0 sc0 scope N cap
def capS(cap:List (Option Nat))(σ:St):St:=cap.map λo=>match o with
 | none=>none
 | some j=>(σ[j]?).join
theorem Zch{N0:List Str}{sc0 scope:Scope}:∀ {N:List Str} {cap:List (Option Nat)},capOk N0 sc0 scope N cap=true->cap.length=N.length
 | [],[],_=>rfl
 | x::N,none::c,h=>by
  have:=Zch (N:=N) (cap:=c) h
  simp[this]
 | x::N,some j::c,h=>by
  simp only[capOk,Bool.and_eq_true] at h
  have:=Zch (N:=N) (cap:=c) h.2
  simp[this]
 | [],_::_,h=>by simp[capOk] at h
 | _::_,[],h=>by simp[capOk] at h
theorem ZdT{N0:List Str}{sc0 scope:Scope}:∀ {N:List Str} {cap:List (Option Nat)} {i j:Nat} {x:Str},capOk N0 sc0 scope N cap=true->N[i]?=some x->cap[i]?=some (some j) ->
  N0[j]?=some x/\(sc0.names.lookup x=some .cell\/sc0.names.lookup x=some .free)/\scope.names.lookup x=some .free/\∀ y∈scope.names,y.1=x->y.2≠.cell
 | [],[],i,j,x,_,h,_=>by simp at h
 | y::N,none::c,0,j,x,_,_,h=>by simp at h
 | y::N,none::c,i+1,j,x,h,h1,h2=>ZdT (N:=N) (cap:=c) (i:=i) h (by simpa using h1) (by simpa using h2)
 | y::N,some j'::c,0,j,x,h,h1,h2=>by
  simp at h1 h2
  subst h1 h2
  simp only[capOk,Bool.and_eq_true,Bool.or_eq_true,beq_iff_eq,List.all_eq_true,bne_iff_ne] at h
  exact⟨h.1.1.1.1,h.1.1.1.2,h.1.1.2,λz hz e=>(h.1.2 z hz).elim (λq=>absurd e q) id⟩
 | y::N,some j'::c,i+1,j,x,h,h1,h2=>by
  simp only[capOk,Bool.and_eq_true] at h
  exact ZdT (N:=N) (cap:=c) (i:=i) h.2 (by simpa using h1) (by simpa using h2)
 | [],_::_,_,_,_,h,_,_=>by simp[capOk] at h
 | _::_,[],_,_,_,h,_,_=>by simp[capOk] at h
def cxC(X:Cx)(scope:Scope)(cl:List (Str×Addr))(N:List Str)(s:Shared)(H:Hp)(fp:List Addr):Cx where
 prog:=X.prog
 w:=X.w
 K:=X.K
 mg:=X.mg
 base:=X.base
 A:=X.A
 N:=N
 s₀:=s
 H₀:=H
 env:=compEnvC scope (cellsFrom (s.heap.objs.size+1+1) scope.names cl) (s.heap.objs.size+1) X.env
 outer:=X.stack
 stack:=X.stack
 ex:=fp
 fn:=λx=>scope.names.lookup x == some .cell
 calm:=X.calm
 pn:=[]
 xe:=λ_ _=>False
theorem Zl4{X:Cx}{pins:List (Addr×Obj)}{σ:St}{H:Hp}{s:Shared}{scope sc0:Scope}{cl:List (Str×Addr)}{N N0:List Str}{cap:List (Option Nat)}{fp:List Addr}
  (I:Inv X pins σ H s) (hf:∀ b∈fp,FpOk X pins H b) (ho:∀ b∈fp,∃ o,s.heap.get? b=some o/\∀ v,o.data≠.cell v)
  (hs0:X.env.scope=sc0) (hN:X.N=N0) (ok:compOk N0 sc0 scope N cap=true)
  (hcl:∀ x c,cl.lookup x=some c->X.env.cells.lookup x=some c) (hfr:∀ x,(x,NameKind.free)∈scope.names->∃ c,cl.lookup x=some c) :
  Inv (cxC X scope cl N s H fp) [] (capS cap σ) (upd H s.heap.objs.size (.lst [])) { s with heap:=pushCells ((s.heap.push { cls:=.type "list",data:=.seq ([]:List Value).toArray }).push { cls:=.type "dict",data:=.dict #[] }) scope.names }:=by
 simp only[compOk,Bool.and_eq_true,beq_iff_eq] at ok
 obtain⟨⟨⟨⟨hk,hloc⟩,hfree⟩,hcell⟩,hcap⟩:=ok
 have e1:(s.heap.push { cls:=.type "list",data:=.seq ([]:List Value).toArray }).objs.size=s.heap.objs.size+1:=Heap.size_push ..
 have e2:((s.heap.push { cls:=.type "list",data:=.seq ([]:List Value).toArray }).push { cls:=.type "dict",data:=.dict #[] }).objs.size=s.heap.objs.size+1+1:=by rw[Heap.size_push,e1]
 have k1:∀ b o,s.heap.get? b=some o->(pushCells ((s.heap.push { cls:=.type "list",data:=.seq ([]:List Value).toArray }).push { cls:=.type "dict",data:=.dict #[] }) scope.names).get? b=some o :=
  λb o e=>pushCells_keeps _ _ b o (Heap.get?_push_of_some _ (Heap.get?_push_of_some _ e))
 have kD:(pushCells ((s.heap.push { cls:=.type "list",data:=.seq ([]:List Value).toArray }).push { cls:=.type "dict",data:=.dict #[] }) scope.names).get? s.heap.objs.size=some { cls:=.type "list",data:=.seq ([]:List Value).toArray } :=
  pushCells_keeps _ _ _ _ (Heap.get?_push_of_some _ (Heap.get?_push_size _ rfl))
 have kC:(pushCells ((s.heap.push { cls:=.type "list",data:=.seq ([]:List Value).toArray }).push { cls:=.type "dict",data:=.dict #[] }) scope.names).Ns (s.heap.objs.size+1) λ_=>none:=by
  have q:=(Heap.Ns.new (s.heap.push { cls:=.type "list",data:=.seq ([]:List Value).toArray }) (.type "dict")).keeps (pushCells_keeps scope.names _)
  rw[e1] at q
  exact q
 have hD:H s.heap.objs.size=none:=I.hok.fresh (Nat.le_refl _)
 have clLt:∀ x c,cl.lookup x=some c->c<s.heap.objs.size:=λx c e=>by
  obtain⟨v,q⟩:=I.cell x c (hcl x c e)
  exact q.lt
 have cells:∀ x c,(cellsFrom (s.heap.objs.size+1+1) scope.names cl).lookup x=some c->s.heap.objs.size+1+1<=c\/cl.lookup x=some c:=λx c e=>ZbN x _ _ _ c e
 have fpLt:∀ b∈fp,b<s.heap.objs.size:=λb hb=>by
  obtain⟨o,e,_⟩:=ho b hb
  exact Heap.lt_size e
 refine⟨⟨I.ok.mod,hk,I.ok.glob,I.ok.blt,Nat.le_succ _,?_,?_,?_,I.ok.hd,I.ok.frames,.inl rfl,?_,I.bs,Nat.le_trans I.ok.bsz I.sz,?_,?_,I.stack,I.stkFree⟩,
  rfl,I.bare,?_,?_,?_,?_,?_,λp hp=>absurd (show p∈([]:List (Addr×Obj)) from hp) (by simp),?_,?_⟩
 ·-- inj
  refine Zbw scope.names _ cl (λx y c h1 h2=>I.ok.inj x y c (hcl x c h1) (hcl y c h2)) λx c h=>?_
  exact Nat.lt_succ_of_lt (Nat.lt_succ_of_lt (clLt x c h))
 ·-- has
  intro x hx
  have hx:(relabel scope X.env).names.lookup x=some .cell\/(relabel scope X.env).names.lookup x=some .free:=hx
  rw[ZeK,Zcg] at hx
  have:scope.names.lookup x=some .cell\/scope.names.lookup x=some .free:=by
   cases e:scope.names.lookup x with
   | none=>rw[e] at hx;simp at hx
   | some k =>
    rw[e] at hx
    cases k<;>simp at hx<;>simp
  refine Option.isSome_iff_exists.mp (PySem.W.cellsFrom_some scope.names _ cl ?_)
  rcases this with h|h
  ·exact .inl h
  ·exact .inr (Option.isSome_iff_exists.mpr (hfr x (PySem.mem_of_lookup h)))
 ·-- cab
  intro x c hx hc
  have hx:scope.names.lookup x=some .cell:=by simpa [cxC] using hx
  have:=Zbx x (s.heap.objs.size+1+1) scope.names (s.heap.objs.size+1+1) cl (Nat.le_refl _) (.inl (PySem.mem_of_lookup hx)) c hc
  exact Nat.le_trans (Nat.le_succ _) (Nat.le_trans (Nat.le_succ _) this)
 ·-- exf
  intro b hb
  have hlt:=fpLt b hb
  refine⟨Nat.ne_of_lt (Nat.lt_succ_of_lt hlt),λx c e=>?_⟩
  rcases cells x c e with q|q
  ·exact Nat.ne_of_gt (Nat.lt_of_lt_of_le (Nat.lt_succ_of_lt (Nat.lt_succ_of_lt hlt)) q)
  ·exact (hf b hb).2.2.2.2.1 x c (hcl x c q)
 ·-- noex
  intro b o e hb
  rcases (hf b hb).2.2.2.1 with q|q
  ·exact I.ok.noex b o e q
  ·exact absurd (Nat.lt_of_lt_of_le (Heap.lt_size (I.ok.bs b o e).1) q) (Nat.lt_irrefl _)
 ·-- exfs
  intro b hb z
  rcases List.mem_cons.mp (I.stkSub b z) with q|q
  ·exact (hf b hb).2.1 q
  ·exact (hf b hb).2.2.1 q
 ·-- base
  exact Un.laid k1 (Nat.le_refl _) hD
 ·-- loc
  refine⟨_,kC,λi x v h1 h2 h3=>?_⟩
  have h2:(capS cap σ)[i]?=some (some v):=h2
  unfold capS at h2
  rw[List.getElem?_map] at h2
  cases e:cap[i]? with
  | none=>rw[e] at h2;cases h2
  | some o =>
   rw[e] at h2
   cases o with
   | none=>cases h2
   | some j =>
    have h2:some ((σ[j]?).join)=some (some v):=h2
    have h2:(σ[j]?).join=some v:=Option.some.inj h2
    obtain⟨q1,q2,q3,q4⟩:=ZdT hcap h1 e
    have q5:σ[j]?=some (some v):=by
     cases es:σ[j]? with
     | none=>rw[es] at h2;cases h2
     | some w'=>rw[es] at h2;cases w' with
      | none=>cases h2
      | some w''=>have:some w''=some v:=h2;rw[this]
    obtain⟨m,hn,hl⟩:=I.loc
    have hk0:X.env.kindOf x=some .cell\/X.env.kindOf x=some .free:=by
     show X.env.scope.names.lookup x=_\/X.env.scope.names.lookup x=_
     rw[hs0];exact q2
    obtain⟨u,r,l⟩:=hl j x v (by rw[hN];exact q1) q5 (hk0.elim (λz=>.inr (.inl z)) λz=>.inr (.inr z))
    refine⟨u,r,?_⟩
    rcases l with⟨z,_⟩|⟨_,c,e1,z⟩
    ·rcases hk0 with y|y<;>(rw[y] at z;cases z)
    ·obtain⟨c',hc'⟩:=hfr x (PySem.mem_of_lookup q3)
     have ec:c'=c:=by
      have:=hcl x c' hc'
      rw[e1] at this
      exact (Option.some.inj this).symm
     subst ec
     refine .inr ⟨?_,c',?_,z.keeps k1⟩
     ·show (relabel scope X.env).names.lookup x=_\/(relabel scope X.env).names.lookup x=_
      rw[ZeK,Zcg,q3]
      by_cases hz:(NameKind.free == NameKind.free && X.env.scope.kind == ScopeKind.function && X.env.scope.names.lookup x == some NameKind.cell)=true
      ·left;show some (if _ then _ else _)=_;rw[if_pos hz]
      ·right;show some (if _ then _ else _)=_;rw[if_neg hz]
     ·show (cellsFrom (s.heap.objs.size+1+1) scope.names cl).lookup x=some c'
      rw[Zby _ _ _ q4]
      exact hc'
 ·-- cell
  intro x c e
  have e:(cellsFrom (s.heap.objs.size+1+1) scope.names cl).lookup x=some c:=e
  rw[<- e2] at e
  exact Za3 scope.names _ cl (λy d hy=>by
   obtain⟨v,q⟩:=I.cell y d (hcl y d hy)
   exact⟨v,q.keeps λb o z=>Heap.get?_push_of_some _ (Heap.get?_push_of_some _ z)⟩) x c e
 ·-- free
  show upd H s.heap.objs.size (.lst []) (s.heap.objs.size+1)=none
  rw[Zah (Nat.ne_of_gt (Nat.lt_succ_self _))]
  exact I.hok.fresh (Nat.le_succ _)
 ·-- freeC
  intro x c e
  rcases cells x c e with q|q
  ·have q2:s.heap.objs.size<c:=Nat.lt_of_lt_of_le (Nat.lt_succ_of_lt (Nat.lt_succ_self _)) q
   rw[Zah (Nat.ne_of_gt q2)]
   exact I.hok.fresh (Nat.le_of_lt q2)
  ·have:=clLt x c q
   rw[Zah (Nat.ne_of_lt this)]
   exact I.freeC x c (hcl x c q)
 ·-- hok
  refine I.hok.laid k1 (Nat.le_refl _) ⟨Nat.zero_le _,[],0,.nil,kD⟩
 ·show (capS cap σ).length=N.length
  unfold capS
  rw[List.length_map,Zch hcap]
end L2
end
section
namespace L2
open PySem PySem.Spec PyProof.Rows
def PIfs(X:Cx)(ifs:List Expr)(t:TT):Prop:=∀ (pins:List (Addr×Obj)) (s:Shared) (σ:St) (H:Hp) (Q:Bool->Hp->Prop),Inv X pins σ H s->t σ H Q ->
 wpAny (model X.prog X.w) X.A (forIn ifs true λc r=>if r=true then do let ok <- isTrue c X.env (eval c X.env);pure (ForInStep.yield ok) else pure (ForInStep.yield r)) (TP X pins σ Q) X.xe s
def tAll:TT:=λ_ H Q=>Q true H
theorem ZaV{X:Cx}:PIfs X [] tAll:=λ_ _ _ H _ I h=>wpAny_tests_nil ⟨H,I,h⟩
theorem Zkx{X:Cx}{c:Expr}{t:TT}(h:PT X c t):PIfs X [c] t:=λpins s σ H Q I q=>wpAny_tests_one (h pins s σ H Q I q)
def CompW(J:It)(g:TG)(tt:TT)(te:TE)(D:Addr)(σ:St)(H:Hp)(Qe:Hp->Prop):Prop :=
 ∃ W:Nat->Nat->St->Hp->Prop,(∃ m,W 0 m σ H)/\∀ i m σ H,W i m σ H ->
  (J.stop i H/\Qe H)\/(J.go i H/\∃ N:St->Hp->Prop,(∀ σ' H',N σ' H'->∃ m',m' < m/\W (i+1) m' σ' H') /\
   ∀ x H',J.yld i H x H'->g x σ H' λσ2 H2=>tt σ2 H2 λb H3=>if b=true then te σ2 H3 λy H4=>∃ xs,H4 D=some (.lst xs)/\xs.length<sizeLine/\N σ2 (upd H4 D (.lst (xs++[y]))) else N σ2 H3)
theorem Zih{X:Cx}{tg iter elt:Expr}{ifs:List Expr}{scope:Scope}{pos:Pos}{it D:Addr}{fp:List Addr}{tn:Nat->Heap->Prop}{J:It}{g:TG}{tt:TT}{te:TE}{R:Result->Shared->Prop}{s:Shared}{σ:St}{H:Hp}{Qe:Hp->Prop}
  (hc:X.calm=true) (hxe:∀ e s,X.xe e s->False) (hg:PG X tg g) (ht:PIfs X ifs tt) (he:PE X elt te) (T:Turn X.prog X.w X.K tg J fp it tn)
  (fpk:∀ H',(∀ b∈fp,H' b=none)->∀ b∈fp,FpOk X [] H' b) (I:Inv X [] σ H s) (st:tn 0 s.heap) (fr:∀ b∈fp,H b=none)
  (h:CompW J g tt te D σ H Qe) (hR:∀ σ' H' s',Inv X [] σ' H' s'->Qe H'->R (.ok .next) s') :
  codeAny (model X.prog X.w) X.A (.compLoop (.ListComp elt [⟨tg,iter,ifs,0⟩] scope pos) 0 (.ref it) (.ref D) X.env) R s:=by
 obtain⟨W,⟨m0,w0⟩,turn⟩:=h
 refine codeAny_loop rfl (λn s'=>∃ i σ' H',Inv X [] σ' H' s'/\tn i s'.heap/\(∀ b∈fp,H' b=none)/\W i n σ' H') (λn s3 hI=>?_) m0 ⟨0,σ,H,I,st,fr,w0⟩
 obtain⟨i,σ3,H3,I3,st3,fr3,w3⟩:=hI
 show wpAny _ X.A ((compTurn (.ListComp elt [⟨tg,iter,ifs,0⟩] scope pos) 0 (.ref it) (.ref D) X.env).onRaise (λx=>do noteFrame x X.env;theTreesLotGoes x)) _ _ s3
 refine wpAny_noted ?_
 rw[compTurn_list]
 refine wpAny_bind (wpAny_standAt (wpAny_bind ?_))
 rcases turn i n σ3 H3 w3 with⟨stop,qn⟩|⟨go,N,hN,step⟩
 ·refine wpAny_mono (T.done X rfl rfl rfl hc i [] s3 σ3 H3 (λ_ _=>False) I3 (fpk H3 fr3) st3 stop) (λr s4 hr=>?_) (λ_ _ f=>f.elim)
  obtain⟨hr,I4⟩:=hr
  subst hr
  exact wpAny_pure (hR σ3 H3 s4 I4 qn)
 ·refine wpAny_mono (T.item X rfl rfl rfl hc i [] s3 σ3 H3 (λ_ _=>False) I3 (fpk H3 fr3) st3 go) (λr s4 hr=>?_) (λ_ _ f=>f.elim)
  obtain⟨u,hr,h4⟩:=hr
  subst hr
  refine wpAny_bind (wpAny_mono h4 (λ_ s5 h5=>?_) λ_ _ f=>f.elim)
  obtain⟨x,H5,I5,r5,y5,st5,fr5⟩:=h5
  have I5':=I5.pinned (fpk H5 fr5) (T.obj _ _ st5)
  refine wpAny_bind (wpAny_mono (hg _ s5 σ3 H5 x u _ I5' r5 (step x H5 y5)) (λ_ s6 h6=>?_) λe s f=>(hxe e s f).elim)
  obtain⟨σ6,H6,I6,q6⟩:=h6
  refine wpAny_bind (wpAny_mono (ht _ s6 σ6 H6 _ I6 q6) (λok s7 h7=>?_) λe s f=>(hxe e s f).elim)
  obtain⟨H7,I7,q7⟩:=h7
  have again:∀ {s7:Shared} {σ7:St} {H7:Hp},Inv X ([]++pinsAt fp s5.heap) σ7 H7 s7->N σ7 H7->∃ m,m<n/\∃ i σ' H',Inv X [] σ' H' s7/\tn i s7.heap/\(∀ b∈fp,H' b=none)/\W i m σ' H':=λ{s7 σ7 H7} I7 n7=>by
   obtain⟨m',hm,w7⟩:=hN σ7 H7 n7
   refine⟨m',hm,i+1,σ7,H7,I7.unpinned,T.keep _ _ _ st5 λb hb o e=>(I7.pin (b,o) (List.mem_append_right _ (List.mem_append_right _ (ZcA hb e)))).1,λb hb=>?_,w7⟩
   obtain⟨o,e,d⟩:=T.obj _ _ st5 b hb
   exact (I7.pin (b,o) (List.mem_append_right _ (List.mem_append_right _ (ZcA hb e)))).2.1
  cases ok with
  | false=>exact wpAny_pure ⟨rfl,again I7 q7⟩
  | true =>
   refine wpAny_bind (wpAny_bind (wpAny_mono (he _ s7 σ6 H7 _ I7 q7) (λy s8 h8=>wpAny_bind ?_) λe s f=>(hxe e s f).elim))
   obtain⟨v8,H8,I8,r8,xs,hD,hz,n8⟩:=h8
   refine wpAny_mono (Za0 (X:=X) _ s8 σ6 H8 (.ref D) [v8] (.ref D) [y] (λ_ H9=>N σ6 H9) I8 rfl (.cons r8 .nil) ⟨D,xs,v8,rfl,rfl,hD,hz,n8⟩) (λ_ s9 h9=>?_) λe s f=>(hxe e s f).elim
   obtain⟨_,H9,I9,_,n9⟩:=h9
   exact wpAny_pure (wpAny_pure ⟨rfl,again I9 n9⟩)
theorem Zky{X:Cx}{pins pins':List (Addr×Obj)}{σ σ':St}{H H':Hp}{s s':Shared}{scope:Scope}{cl:List (Str×Addr)}{N:List Str}{fp:List Addr}(I:Inv X pins σ H s)(hf:∀ b∈fp,FpOk X pins H b)
  (J:Inv (cxC X scope cl N s H fp) pins' σ' H' s'):Inv X pins σ H' s' :=
 I.call' (ch:=fp) J.os J.base J.hok J.bare λb hb=>⟨(hf b hb).2.2.2.1,(hf b hb).2.1,(hf b hb).2.2.2.2.1,(hf b hb).2.2.2.2.2⟩
def tComp(cap:List (Option Nat))(wi:TI)(g:TG)(tt:TT)(te:TE):TE:=λσ H Q=>wi σ H λJ H1=>∀ D,H1 D=none->CompW J g tt te D (capS cap σ) (upd H1 D (.lst [])) λH2=>Q (.ref D) H2
theorem Zf1{X:Cx}{sc0 scope:Scope}{N0 N:List Str}{cap:List (Option Nat)}{tg iter elt:Expr}{ifs:List Expr}{pos pos':Pos}{wi:TI}{g:TG}{tt:TT}{te:TE}{use:Option (Value->Sem Unit)}{Qv:Value->Shared->Prop}
  {pins:List (Addr×Obj)} {s:Shared} {σ:St} {H:Hp} {Q:VK}
  (hc:X.calm=true) (hs0:X.env.scope=sc0) (hN:X.N=N0) (ok:compOk N0 sc0 scope N cap=true) (hi:PI X tg iter wi)
  (hg:∀ cl s H fp,PG (cxC X scope cl N s H fp) tg g) (ht:∀ cl s H fp,PIfs (cxC X scope cl N s H fp) ifs tt) (he:∀ cl s H fp,PE (cxC X scope cl N s H fp) elt te) (hfs:∀ x,foldedSetIterable iter X.env x=pure x)
  (I:Inv X pins σ H s) (h:tComp cap wi g tt te σ H Q)
  (hend:∀ (D C:Addr) (m:Str->Option Value) (H':Hp) (s':Shared),Inv X pins σ H' s'->s'.heap.Ns C m->H' C=none->C≠X.env.locals->X.s₀.heap.objs.size<=C->(∀ x c,X.env.cells.lookup x=some c->c≠C)->(∀ p∈X.pn++pins,p.1≠C)->Q (.ref D) H' ->
   compPost (model X.prog X.w) X.A X.xe use Qv (.ref D) C (.ok .next) s') :
  wpAny (model X.prog X.w) X.A (comprehension (.ListComp elt [⟨tg,iter,ifs,0⟩] scope pos) scope X.env pos' (newList []) false (eval iter X.env) use) Qv X.xe s:=by
 have ok':=ok
 simp only[compOk,Bool.and_eq_true,beq_iff_eq,List.all_eq_true,Bool.or_eq_true,bne_iff_ne] at ok'
 obtain⟨⟨⟨⟨hk,hloc⟩,hfree⟩,hcell⟩,hcap⟩:=ok'
 obtain⟨cl,hcl1,hcl2,hcl3⟩:=ZeJ (scope:=scope) (env:=X.env) (λy hy e=>I.ok.has y.1 (by
  show X.env.scope.names.lookup y.1=_\/X.env.scope.names.lookup y.1=_
  rw[hs0]
  rcases hfree y hy with z|z
  ·exact absurd e z
  ·exact z))
 refine wpAny_comprehension_free rfl hfs hcl1 hk (λy hy e=>by
  rcases hloc y hy with z|z
  ·exact absurd e z
  ·exact z) (wpAny_mono (hi pins s σ H _ I h) (λv s1 h1=>wpAny_mono h1 (λitv s2 h2=>?_) λ_ _ e=>e) λ_ _ e=>e)
 obtain⟨it,fp,tn,J,H2,e,I2,T,st2,f2,q2⟩:=h2
 subst e
 refine wpAny_newObj_type (newEnvC ?_)
 have I3:=Zl4 I2 f2 (T.obj _ _ st2) hs0 hN ok hcl2 hcl3
 have eC:(s2.heap.push { cls:=.type "list",data:=.seq ([]:List Value).toArray }).objs.size=s2.heap.objs.size+1:=Heap.size_push ..
 show codeAny _ _ (.compStart (.ListComp elt [⟨tg,iter,ifs,0⟩] scope pos) 0 (.ref it) (.ref s2.heap.objs.size)
  (compEnvC scope (cellsFrom ((s2.heap.push { cls:=.type "list",data:=.seq ([]:List Value).toArray }).objs.size+1) scope.names cl) ((s2.heap.push { cls:=.type "list",data:=.seq ([]:List Value).toArray }).objs.size) X.env))
  (compPost _ _ _ use Qv (.ref s2.heap.objs.size) ((s2.heap.push { cls:=.type "list",data:=.seq ([]:List Value).toArray }).objs.size)) _
 rw[eC]
 have fpk:∀ H',(∀ b∈fp,H' b=none)->∀ b∈fp,FpOk (cxC X scope cl N s2 H2 fp) [] H' b:=λH' hn b hb =>
  ⟨hn b hb,(I3.ok.exf b hb).1,I3.ok.exfs b hb,.inl hb,(I3.ok.exf b hb).2,λp hp=>absurd (show p∈([]:List (Addr×Obj)) from hp) (by simp)⟩
 have fpLt:∀ b∈fp,b<s2.heap.objs.size:=λb hb=>by
  obtain⟨o,e,_⟩:=T.obj _ _ st2 b hb
  exact Heap.lt_size e
 have k1:∀ b o,s2.heap.get? b=some o->(pushCells ((s2.heap.push { cls:=.type "list",data:=.seq ([]:List Value).toArray }).push { cls:=.type "dict",data:=.dict #[] }) scope.names).get? b=some o :=
  λb o e=>pushCells_keeps _ _ b o (Heap.get?_push_of_some _ (Heap.get?_push_of_some _ e))
 have st3:=T.keep 0 s2.heap (pushCells ((s2.heap.push { cls:=.type "list",data:=.seq ([]:List Value).toArray }).push { cls:=.type "dict",data:=.dict #[] }) scope.names) st2 λb _ o e=>k1 b o e
 have loop:=Zih (X:=cxC X scope cl N s2 H2 fp) (iter:=iter) (scope:=scope) (pos:=pos) (it:=it) (D:=s2.heap.objs.size) (R:=compPost (model X.prog X.w) X.A X.xe use Qv (.ref s2.heap.objs.size) (s2.heap.objs.size+1)) hc (λ_ _ f=>f) (hg cl s2 H2 fp) (ht cl s2 H2 fp) (he cl s2 H2 fp) T fpk I3 st3
  (λb hb=>by rw[Zah (Nat.ne_of_lt (fpLt b hb))];exact (f2 b hb).1) (q2 _ (I2.hok.fresh (Nat.le_refl _))) (λσ' H' s' J' q=>by
   obtain⟨m,hm,_⟩:=id J'.loc
   refine hend _ _ m H' s' (Zky I2 f2 J') hm J'.free ?_ ?_ ?_ ?_ q
   ·exact Nat.ne_of_gt (Nat.lt_succ_of_lt I2.lt)
   ·exact Nat.le_succ_of_le I2.sz
   ·intro x c e
    obtain⟨v,q⟩:=I2.cell x c e
    exact Nat.ne_of_lt (Nat.lt_succ_of_lt q.lt)
   ·intro p hp
    exact Nat.ne_of_lt (Nat.lt_succ_of_lt (Heap.lt_size (I2.pin p hp).1)))
 exact codeAny_compStart_list loop (T.self X.A 0 _ _ _ st3 loop)
theorem Zbs{X:Cx}{sc0 scope:Scope}{N0 N:List Str}{cap:List (Option Nat)}{tg iter elt:Expr}{ifs:List Expr}{pos:Pos}{wi:TI}{g:TG}{tt:TT}{te:TE}
  (hc:X.calm=true) (hs0:X.env.scope=sc0) (hN:X.N=N0) (ok:compOk N0 sc0 scope N cap=true) (hi:PI X tg iter wi)
  (hg:∀ cl s H fp,PG (cxC X scope cl N s H fp) tg g) (ht:∀ cl s H fp,PIfs (cxC X scope cl N s H fp) ifs tt) (he:∀ cl s H fp,PE (cxC X scope cl N s H fp) elt te) (hfs:∀ x,foldedSetIterable iter X.env x=pure x:=by intro _;rfl) :
  PE X (.ListComp elt [⟨tg,iter,ifs,0⟩] scope pos) (tComp cap wi g tt te):=by
 intro pins s σ H Q I h
 rw[eval_ListComp]
 refine Zf1 hc hs0 hN ok hi hg ht he hfs I h λD C m H' s' J hm hC1 hC2 hC3 hC4 hC5 q=>⟨m,hm,λh' hs=>?_⟩
 exact⟨.ref D,H',J.turned (t':=s'.toks) (λb o hb e=>(hs.2 b hb).trans e) hC1 hC2 (.inr hC3) hC4 hC5,rfl,q⟩
theorem ZiW{X:Cx}{sc0 scope:Scope}{N0 N:List Str}{cap:List (Option Nat)}{tg iter elt:Expr}{ifs:List Expr}{pos spos pos':Pos}{wi:TI}{g:TG}{tt:TT}{te:TE}{i:Nat}{x:Str}
  (hNd:X.N.Nodup) (hix:X.N[i]?=some x) (hx:X.env.scope.names.lookup x=some .local)
  (hc:X.calm=true) (hs0:X.env.scope=sc0) (hN:X.N=N0) (ok:compOk N0 sc0 scope N cap=true) (hi:PI X tg iter wi)
  (hg:∀ cl s H fp,PG (cxC X scope cl N s H fp) tg g) (ht:∀ cl s H fp,PIfs (cxC X scope cl N s H fp) ifs tt) (he:∀ cl s H fp,PE (cxC X scope cl N s H fp) elt te) (hfs:∀ x,foldedSetIterable iter X.env x=pure x:=by intro _;rfl)
  (hsw:swapsWith (.ListComp elt [⟨tg,iter,ifs,0⟩] scope pos) (some (.Name x pos')) spos.line X.env=pure true:=by rfl) :
  PS X (.Assign [.Name x pos'] (.ListComp elt [⟨tg,iter,ifs,0⟩] scope pos) spos) (tAsg (tComp cap wi g tt te) (gName i)):=by
 intro pins s σ H D I h
 rw[exec_Assign_Name_used _ _ _ _ hsw]
 refine wpAny_bind (wpAny_standAt (wpAny_bind ?_))
 show wpAny _ X.A (do let _ <- comprehension (.ListComp elt [⟨tg,iter,ifs,0⟩] scope pos) scope X.env _ (newList []) false (eval iter X.env) (some (assign (.Name x pos') X.env))) _ _ s
 refine wpAny_bind (wpAny_mono (Zf1 (use:=some (assign (.Name x pos') X.env)) (Qv:=λ_ s'=>SP X pins D .next s') hc hs0 hN ok hi hg ht he hfs I h λA C m H' s' J hm hC1 hC2 hC3 hC4 hC5 q=>?_) (λ_ s' hq=>wpAny_pure (wpAny_pure hq)) λ_ _ e=>e)
 show wpAny _ X.A (assign (.Name x pos') X.env (.ref A)) _ _ s'
 refine wpAny_assign_Name (Zce (v:=.ref A) J hNd hix (.inl hx) rfl (λs2 J2 hs2=>?_) (.inr hx))
 obtain⟨a,hs2,ha⟩:=hs2
 have hCa:C≠a:=by
  rcases ha with z|z
  ·rw[z];exact hC2
  ·exact λe=>hC4 _ _ z e.symm
 refine⟨m,hm.sameBut hs2 hCa,λh' hs=>?_⟩
 exact⟨_,H',J2.turned (t':=s2.toks) (λb o hb e=>(hs.2 b hb).trans e) hC1 hC2 (.inr hC3) hC4 hC5,q⟩
end L2
end
section
namespace L2
open PySem PySem.Spec PyProof.Rows
structure FunD(K:W.Frag)(x qual:Str)(st:Stmt)(dV:Value)(f:Addr)(fd:FuncData):Prop where
 ex:∃ (oc:Value) (od:Option Addr) (kV doc pm:Value) (an:Option Addr) (cdv ct:Value) (osl:Array (Option Value)),
  fd=PySem.W.fnOf x qual (defArgs st) (defBody st) (defScope st) dV kV doc pm an cdv ct/\K.lookup f=some ⟨oc,od,.func fd,osl⟩/\W.codeIn K cdv qual=true
 kp:W.keepIn K (.ref f)=true
section
variable {P:Program}{w:World}{K:W.Frag}{mg:Str->Option Value}{base:Heap}{CX:CXT}
theorem FunD.ok{x qual:Str}{st:Stmt}{dV:Value}{f:Addr}{fd:FuncData}{N ps:List Str}{k:Nat}{sp:Sp}(F:FunD K x qual st dV f fd)(S:FnScope N ps (defScope st))(len:∀ vs H Q E,sp vs H Q E->vs.length=ps.length)
  (hbody:∀ (cdv:Value) (A:Around) (outer:List Env) (s:Shared) (H:Hp) (vs:List V) (Q:VK) (E:XK),Room k (A.deeper (envOfC qual (defScope st) s.heap.objs.size f cdv))->sp vs H Q E ->
   ∃ t,PSs (cxOf CX P w K mg base N qual (defScope st) f cdv A outer s H E).nox (defBody st) t/\t { nx:=λ_ H'=>Q .non H',rt:=Q } (start N vs) H):FnOk P w K mg base CX (k+1) f fd ps sp:=by
 obtain⟨oc,od,kV,doc,pm,an,cdv,ct,osl,rfl,lk,hcd⟩:=F.ex
 refine ZlX lk hcd S len λA outer s H vs Q E hr hsp=>?_
 obtain⟨t,h,q⟩:=hbody cdv A outer s H vs Q E hr hsp
 exact⟨t,h.nox,q⟩
end
structure Cal(P:Program)(w:World)(K:W.Frag)(mg:Str->Option Value)(base:Heap)(CX:CXT)(k:Nat)(x:Str)(ps:List Str)(dvs:List V)(sp:Sp):Prop where
 ex:∃ (f:Addr) (fd:FuncData) (ds:List Value),FnOk P w K mg base CX k f fd ps sp/\mg x=some (.ref f)/\W.keepIn K (.ref f)=true/\Binds K fd ps ds/\Vals dvs ds
structure Tx(K:W.Frag)(mg:Str->Option Value)(x:Str)(st:Stmt)(ps:List Str)(dvss:List (List V)):Prop where
 ex:∃ (dV:Value) (f:Addr) (fd:FuncData),FunD K x x st dV f fd/\mg x=some (.ref f)/\∀ dvs∈dvss,∃ ds,Binds K fd ps ds/\Vals dvs ds
theorem Cal.mono{P:Program}{w:World}{K:W.Frag}{mg:Str->Option Value}{base:Heap}{CX:CXT}{j k:Nat}{x:Str}{ps:List Str}{dvs:List V}{sp:Sp}(c:Cal P w K mg base CX j x ps dvs sp)(h:j<=k):Cal P w K mg base CX k x ps dvs sp :=
 let ⟨f,fd,ds,h1,h2⟩:=c.ex
 ⟨f,fd,ds,h1.mono h,h2⟩
theorem Tx.cal{P:Program}{w:World}{K:W.Frag}{mg:Str->Option Value}{base:Heap}{CX:CXT}{x:Str}{st:Stmt}{N ps:List Str}{dvss:List (List V)}{k:Nat}{sp:Sp}(T:Tx K mg x st ps dvss)(S:FnScope N ps (defScope st))
  (len:∀ vs H Q E,sp vs H Q E->vs.length=ps.length)
  (hbody:∀ (f:Addr) (cdv:Value) (A:Around) (outer:List Env) (s:Shared) (H:Hp) (vs:List V) (Q:VK) (E:XK),Room k (A.deeper (envOfC x (defScope st) s.heap.objs.size f cdv))->sp vs H Q E ->
   ∃ t,PSs (cxOf CX P w K mg base N x (defScope st) f cdv A outer s H E).nox (defBody st) t/\t { nx:=λ_ H'=>Q .non H',rt:=Q } (start N vs) H) :
  ∀ dvs∈dvss,Cal P w K mg base CX (k+1) x ps dvs sp:=by
 obtain⟨dV,f,fd,F,m,b⟩:=T.ex
 intro dvs hd
 obtain⟨ds,b1,b2⟩:=b dvs hd
 exact⟨f,fd,ds,F.ok S len (λcdv A outer s H vs Q E hr h=>hbody f cdv A outer s H vs Q E hr h),m,F.kp,b1,b2⟩
section
variable {X:Cx}{CX:CXT}{k:Nat}{ps:List Str}{sp:Sp}{dvs:List V}{E:XK}{x:Str}{p pos:Pos}{e:Expr}{es:List Expr}{t:TA}
theorem Zai(c:Cal X.prog X.w X.K X.mg X.base CX k x ps dvs sp)(hr:Room k X.A)(hg:Gl X x)(hx:Passes CX X E)(ha:PA X (e::es) t)(hdb:(x == ("__debug__" : Str))=false:=by decide)
  (he:starEach (e::es) X.env=(false,eval e X.env)::starEach es X.env:=by rfl) (hpl:(backTo pos (starEach es X.env)).any (·.1)=false:=by rfl) :
  PE X (.Call (.Name x p) (e::es) [] pos) (tCall sp dvs E t):=by
 obtain⟨f,fd,ds,h1,h2,h3,h4,h5⟩:=c.ex
 exact ZlW h1 hr hg h2 h3 h4 h5 hx ha hdb he hpl
end
section
variable {X:Cx}
def rLen(K:W.Frag):List V->Hp->VK->Prop:=λxs H Q=>∃ p ys,xs=[.ref p]/\(SqL K H p ys\/SqT K H p ys)/\Q (.int ys.length) H
def rTpl(K:W.Frag):List V->Hp->VK->Prop:=λxs H Q=>∃ p ys,xs=[.ref p]/\((SqL K H p ys/\∀ l,H l=none->Q (.ref l) (upd H l (.tup ys)))\/(SqT K H p ys/\Q (.ref p) H))
theorem ZiX:CallR X (.builtin "len") (rLen X.K):=ZfW
theorem ZiY:CallR X (.type "tuple") (rTpl X.K):=Ze8
end
def XObj(ea:Addr)(c:Value)(d:Option Addr):Heap->Prop:=λh=>∃ o vs,h.get? ea=some o/\o.cls=c/\o.dict=d/\o.data=.fields vs
def hX(ea:Addr)(c:Value)(d:Option Addr):HO:=.ext (XObj ea c d)
def XDct(d:Addr)(fs:List (Str×V)):Heap->Prop:=λh=>∃ mA,h.Ns1 d mA/\(∀ f,RelO (fs.lookup f) (mA f))/\PySem.Within mA (fs.map (·.1))
def hXD(d:Addr)(fs:List (Str×V)):HO:=.ext (XDct d fs)
def keyD:Key->PyData
 | .inl i=>.int i
 | .inr x=>.str x
abbrev dJ:PyData:=.dict [(.none,.none)]
mutual
inductive Rep(K:W.Frag)(H:Hp):V->PyData->Prop
 | non:Rep K H .non .none
 | bl (b:Bool):Rep K H (.bl b) (.bool b)
 | int (i:Int):Rep K H (.int i) (.int i)
 | str (x:Str):Rep K H (.str x) (.str x)
 | lst {a:Addr} {xs:List V} {ds:List PyData}:SqL K H a xs->Reps K H xs ds->Rep K H (.ref a) (.list ds)
 | tup {a:Addr} {xs:List V} {ds:List PyData}:H a=some (.tup xs)->Reps K H xs ds->Rep K H (.ref a) (.tuple ds)
 | exc {ea C:Addr} {kvs:List (PyData×PyData)}:H ea=some (hX ea (.ref C) none)->kvs=[(.none,.int C)]->Rep K H (.ref ea) (.dict kvs)
 | excF {ea C a:Addr} {vs:List (Str×V)} {ds:List PyData} {kvs:List (PyData×PyData)}:H ea=some (hX ea (.ref C) (some a))->H a=some (hXD a vs)->Reps K H (vs.map Prod.snd) ds->kvs=(.none,.int C)::(vs.map λp=>PyData.str p.1).zip ds->Rep K H (.ref ea) (.dict kvs)
 | dK {a:Addr} {ks:List (Key×V)} {ds:List PyData} {kvs:List (PyData×PyData)}:Rd H a (.dK ks)->Reps K H (ks.map Prod.snd) ds->kvs=(ks.map λp=>keyD p.1).zip ds->Rep K H (.ref a) (.dict kvs)
 | dT {a:Addr} {ks:List (List Key×V)} {ds:List PyData} {kvs:List (PyData×PyData)}:Rd H a (.dT ks)->Reps K H (ks.map Prod.snd) ds->kvs=(ks.map λp=>PyData.tuple (p.1.map keyD)).zip ds->Rep K H (.ref a) (.dict kvs)
 | dN {a:Addr} {ks:List ((Key×List Key)×V)} {ds:List PyData} {kvs:List (PyData×PyData)}:ks≠[]->Rd H a (.dN ks)->Reps K H (ks.map Prod.snd) ds->kvs=(ks.map λp=>PyData.tuple [keyD p.1.1,.tuple (p.1.2.map keyD)]).zip ds->Rep K H (.ref a) (.dict kvs)
 | junk {v:V}:Rep K H v dJ
inductive Reps(K:W.Frag)(H:Hp):List V->List PyData->Prop
 | nil:Reps K H [] []
 | cons {x:V} {d:PyData} {xs:List V} {ds:List PyData}:Rep K H x d->Reps K H xs ds->Reps K H (x::xs) (d::ds)
end
section
variable {X:Cx}{pins:List (Addr×Obj)}{σ:St}{H H':Hp}{s:Shared}{K:W.Frag}
theorem Rep.indF{K:W.Frag}{H:Hp}{M:V->PyData->Prop}{N:List V->List PyData->Prop}(h1:M .non .none)(h2:∀ b,M (.bl b) (.bool b))(h3:∀ i,M (.int i) (.int i))(h4:∀ x,M (.str x) (.str x))
  (h5:∀ {a xs ds},SqL K H a xs->N xs ds->M (.ref a) (.list ds)) (h6:∀ {a xs ds},H a=some (.tup xs)->N xs ds->M (.ref a) (.tuple ds)) (h7:∀ v l,M v (.dict l)) (n:N [] []) (c:∀ {x d xs ds},M x d->N xs ds->N (x::xs) (d::ds)):(∀ {v d},Rep K H v d->M v d)/\∀ {vs ds},Reps K H vs ds->N vs ds :=
 ⟨λh=>Rep.rec (motive_1:=λv d _=>M v d) (motive_2:=λv d _=>N v d) h1 h2 h3 h4 (λh _=>h5 h) (λh _=>h6 h) (λ_ _=>h7 _ _) (λ_ _ _ _ _=>h7 _ _) (λ_ _ _ _=>h7 _ _) (λ_ _ _ _=>h7 _ _) (λ_ _ _ _ _=>h7 _ _) (h7 _ _) n (λ_ _=>c) h,
  λh=>Reps.rec (motive_1:=λv d _=>M v d) (motive_2:=λv d _=>N v d) h1 h2 h3 h4 (λh _=>h5 h) (λh _=>h6 h) (λ_ _=>h7 _ _) (λ_ _ _ _ _=>h7 _ _) (λ_ _ _ _=>h7 _ _) (λ_ _ _ _=>h7 _ _) (λ_ _ _ _ _=>h7 _ _) (h7 _ _) n (λ_ _=>c) h⟩
theorem Rep.reads(I:Inv X pins σ H s){v:V}{d:PyData}{u:Value}(hn:d.canLay0=true)(h:Rep X.K H v d)(r:RelV v u):∃ as,Reads s.heap u d as:=by
 refine (Rep.indF (M:=λv d=>∀ u,d.canLay0=true->RelV v u->∃ as,Reads s.heap u d as) (N:=λvs ds=>∀ us,PyData.canLayAll0 ds=true->Vals vs us->∃ as,ReadsAll s.heap us ds as) ?_ ?_ ?_ ?_ ?_ ?_ ?_ ?_ ?_).1 h u hn r
 ·intro u _ r;cases (show u=Value.none from r);exact⟨_,Reads.none⟩
 ·intro b u _ r;cases (show u=Value.bool b from r);exact⟨_,Reads.bool b⟩
 ·intro i u _ r;obtain⟨t,q⟩:=(show ∃ t,u=Value.int i t from r);cases q;exact⟨_,Reads.int i t⟩
 ·intro x u _ r;obtain⟨t,q⟩:=(show ∃ t,u=Value.str x t from r);cases q;exact⟨_,Reads.str x t⟩
 ·intro a xs ds h ih u hn r
  cases (show u=Value.ref a from r)
  obtain⟨its,rv,p,_⟩:=I.list h
  obtain⟨as,q⟩:=ih _ (by simpa [PyData.canLay0] using hn) rv
  obtain⟨o,h1,h2,n,h3⟩:=p.isList
  exact⟨_,Reads.list h1 h2 h3 (by simpa using q)⟩
 ·intro a xs ds h ih u hn r
  cases (show u=Value.ref a from r)
  obtain⟨its,rv,p,_⟩:=I.tuple (SqT.of h)
  obtain⟨as,q⟩:=ih _ (by simpa [PyData.canLay0] using hn) rv
  obtain⟨o,h1,h2,n,h3⟩:=p
  exact⟨_,Reads.tuple h1 h2 h3 (by simpa using q)⟩
 ·intro v l u hn;simp[PyData.canLay0] at hn
 ·intro us _ q;cases q;exact⟨_,ReadsAll.nil⟩
 ·intro x d xs ds i1 i2 us hn q
  simp only[PyData.canLayAll0,Bool.and_eq_true] at hn
  cases q with
  | cons q qs =>
   obtain⟨as,h1⟩:=i1 _ hn.1 q
   obtain⟨bs,h2⟩:=i2 _ hn.2 qs
   exact⟨_,ReadsAll.cons h1 h2⟩
theorem Same.rd(e:Same H H'){a:Addr}{u:HO}(h:Rd H a u):Rd H' a u:=h.imp (λh=>e _ _ h) λ⟨o,h⟩=>⟨o,e _ _ h⟩
theorem Same.tupS(e:Same H H'){a:Addr}{xs:List V}(h:SqT K H a xs):SqT K H' a xs:=by
 rcases h with (h|⟨o,h⟩)|h
 ·exact .inl (.inl (e _ _ h))
 ·exact .inl (.inr ⟨o,e _ _ h⟩)
 ·exact .inr h
def Low(G G':Hp):Prop:=∀ b o,G b=some o->(∀ ob c,o≠.frz ob (.own c))->G' b=some o
theorem Low.rd(e:Low H H'){a:Addr}{u:HO}(n:∀ ob c,u≠.frz ob (.own c))(n2:∀ c,u≠.own c)(h:Rd H a u):Rd H' a u:=h.imp (λh=>e _ _ h n) λ⟨o,h⟩=>⟨o,e _ _ h λob c z=>by cases z;exact n2 _ rfl⟩
theorem Low.seq(e:Low H H'){a:Addr}{xs:List V}(h:SqL K H a xs):SqL K H' a xs:=by
 rcases h with (h|⟨o,h⟩)|h
 ·exact .inl (.inl (e _ _ h λ_ _ z=>by cases z))
 ·exact .inl (.inr ⟨o,e _ _ h λ_ _ z=>by cases z⟩)
 ·exact .inr h
theorem Rep.low(e:Low H H'){v:V}{d:PyData}(h:Rep K H v d):Rep K H' v d :=
 Rep.rec (motive_1:=λv d _=>Rep K H' v d) (motive_2:=λv d _=>Reps K H' v d) .non .bl .int .str (λh _ i=>.lst (e.seq h) i) (λh _ i=>.tup (e _ _ h (by intro _ _ z;cases z)) i) (λh z=>.exc (e _ _ h (by intro _ _ z;cases z)) z) (λh k _ z i=>.excF (e _ _ h (by intro _ _ z;cases z)) (e _ _ k (by intro _ _ z;cases z)) i z)
  (λh _ z i=>.dK (e.rd (by intro _ _ z;cases z) (by intro _ z;cases z) h) i z) (λh _ z i=>.dT (e.rd (by intro _ _ z;cases z) (by intro _ z;cases z) h) i z) (λn h _ z i=>.dN n (e.rd (by intro _ _ z;cases z) (by intro _ z;cases z) h) i z) .junk .nil (λ_ _=>.cons) h
theorem Reps.imp(f:∀ {v d},Rep K H v d->Rep K H' v d):∀ {vs:List V} {ds:List PyData},Reps K H vs ds->Reps K H' vs ds
 | _,_,.nil=>.nil
 | _,_,.cons r rs=>.cons (f r) (Reps.imp f rs)
theorem Reps.low(e:Low H H'){vs:List V}{ds:List PyData}(h:Reps K H vs ds):Reps K H' vs ds:=Reps.imp (λr=>r.low e) h
theorem Rep.same(e:Same H H'){v:V}{d:PyData}(h:Rep K H v d):Rep K H' v d:=h.low λb o z _=>e b o z
theorem Reps.same(e:Same H H'){vs:List V}{ds:List PyData}(h:Reps K H vs ds):Reps K H' vs ds:=Reps.imp (λr=>r.same e) h
theorem Reps.length:∀ {vs:List V} {ds:List PyData},Reps K H vs ds->vs.length=ds.length
 | _,_,.nil=>rfl
 | _,_,.cons _ rs=>by rw[List.length_cons,List.length_cons,Reps.length rs]
theorem Reps.get:∀ {vs:List V} {ds:List PyData} {i:Nat} {d:PyData},Reps K H vs ds->ds[i]?=some d->∃ v,vs[i]?=some v/\Rep K H v d
 | _,_,i,d,.nil,e=>by simp at e
 | _,_,0,d,.cons r _,e=>by simp at e;subst e;exact⟨_,rfl,r⟩
 | _,_,i+1,d,.cons _ rs,e=>by
  obtain⟨v,h1,h2⟩:=Reps.get (i:=i) rs (by simpa using e)
  exact⟨v,by simpa using h1,h2⟩
theorem Reps.append:∀ {vs ws:List V} {ds es:List PyData},Reps K H vs ds->Reps K H ws es->Reps K H (vs++ws) (ds++es)
 | _,_,_,_,.nil,h=>h
 | _,_,_,_,.cons r rs,h=>.cons r (Reps.append rs h)
theorem Reps.ints(ns:List Int):Reps K H (ns.map V.int) (ns.map PyData.int):=by
 induction ns with
 | nil=>exact .nil
 | cons n ns ih=>exact .cons (.int n) ih
theorem Zba{p:Addr}{o:HO}(h:H p=none):Same H (upd H p o):=λb u e=>by rw[Zah (Zan e h)];exact e
def dOk(d:PyData):Prop:=SeqAt.shaped d=true
def rEqD(K:W.Frag):R2:=λx y H Q=>∃ d e,Rep K H x d/\Rep K H y e/\dOk d/\dOk e/\Q (.bl (PyData.eqv d e)) H
def rNeD(K:W.Frag):R2:=λx y H Q=>∃ d e,Rep K H x d/\Rep K H y e/\dOk d/\dOk e/\Q (.bl (!PyData.eqv d e)) H
theorem Znr(hu:X.A.units+64<cLine):OpR X (compareOp .Eq) (rEqD X.K):=by
 intro pins s σ H x y v u Q I rx ry h
 obtain⟨d,e,h1,h2,h3,h4,q⟩:=h
 obtain⟨as,k1⟩:=Rep.reads I (SeqAt.canLay_of_shaped h3) h1 rx
 obtain⟨bs,k2⟩:=Rep.reads I (SeqAt.canLay_of_shaped h4) h2 ry
 exact eq_dataH k1 k2 h3 h4 hu ⟨.bl _,H,I,rfl,q⟩
theorem Zns(hu:X.A.units+64<cLine):OpR X (compareOp .NotEq) (rNeD X.K):=by
 intro pins s σ H x y v u Q I rx ry h
 obtain⟨d,e,h1,h2,h3,h4,q⟩:=h
 obtain⟨as,k1⟩:=Rep.reads I (SeqAt.canLay_of_shaped h3) h1 rx
 obtain⟨bs,k2⟩:=Rep.reads I (SeqAt.canLay_of_shaped h4) h2 ry
 exact ne_dataH k1 k2 h3 h4 hu ⟨.bl _,H,I,rfl,q⟩
end
structure Enc{α:Type}(f:α->PyData)(n:Nat):Prop where
 eqv:∀ a b,PyData.eqv (f a) (f b)=true↔a=b
 lay:∀ a,(f a).canLay0=true
 dep:∀ a,(f a).depth<=n
theorem Enc.ok{α:Type}{f:α->PyData}{n:Nat}(E:Enc f n)(hn:n<=32)(a:α):dOk (f a):=by
 unfold dOk SeqAt.shaped
 rw[E.lay a,Bool.true_and]
 exact decide_eq_true (Nat.le_trans (E.dep a) (Nat.le_trans hn (by decide)))
theorem Enc.int:Enc PyData.int 0:=⟨λa b=>by simp[PyData.eqv],λ_=>by simp[PyData.canLay0],λ_=>by simp[PyData.depth]⟩
theorem ZeL{α:Type}{f:α->PyData}(h:∀ a b,PyData.eqv (f a) (f b)=true↔a=b):∀ xs ys:List α,PyData.eqvAll (xs.map f) (ys.map f)=true↔xs=ys
 | [],[]=>by simp[PyData.eqvAll]
 | [],_::_=>by simp[PyData.eqvAll]
 | _::_,[]=>by simp[PyData.eqvAll]
 | x::xs,y::ys=>by simp[PyData.eqvAll,h x y,ZeL h xs ys]
theorem ZeM{α:Type}{f:α->PyData}(h:∀ a,(f a).canLay0=true):∀ xs:List α,PyData.canLayAll0 (xs.map f)=true
 | []=>rfl
 | x::xs=>by simp[PyData.canLayAll0,h x,ZeM h xs]
theorem ZeN{α:Type}{f:α->PyData}{n:Nat}(h:∀ a,(f a).depth<=n):∀ xs:List α,PyData.depthAll (xs.map f)<=n
 | []=>Nat.zero_le _
 | x::xs=>by
  have h1:=h x
  have h2:=ZeN h xs
  simp only[List.map_cons,PyData.depthAll]
  omega
theorem Enc.tuple{α:Type}{f:α->PyData}{n:Nat}(E:Enc f n):Enc (λxs:List α=>PyData.tuple (xs.map f)) (n+1) :=
 ⟨λa b=>by simp only[PyData.eqv];exact ZeL E.eqv a b,λa=>by simp only[PyData.canLay0];exact ZeM E.lay a,λa=>by simp only[PyData.depth];have:=ZeN E.dep a;omega⟩
theorem Enc.pair{α β:Type}{f:α->PyData}{g:β->PyData}{n:Nat}(E:Enc f n)(G:Enc g n):Enc (λp:α×β=>PyData.tuple [f p.1,g p.2]) (n+1) :=
 ⟨λa b=>by
  obtain⟨a1,a2⟩:=a
  obtain⟨b1,b2⟩:=b
  simp[PyData.eqv,PyData.eqvAll,E.eqv,G.eqv],λa=>by simp[PyData.canLay0,PyData.canLayAll0,E.lay,G.lay],λa=>by
  have h1:=E.dep a.1
  have h2:=G.dep a.2
  simp only[PyData.depth,PyData.depthAll]
  omega⟩
theorem Enc.dec{α:Type}{f:α->PyData}{n:Nat}[DecidableEq α](E:Enc f n)(a b:α):PyData.eqv (f a) (f b)=decide (a=b):=by
 by_cases h:a=b
 ·rw[decide_eq_true h];exact (E.eqv a b).mpr h
 ·rw[decide_eq_false h];exact Bool.eq_false_iff.mpr λz=>h ((E.eqv a b).mp z)
end L2
end
section
namespace L2
open PySem PySem.Spec PyProof.Rows
theorem ZeO{X:Cx}{x:Str}{i:Int}{pos:Pos}(hm:∃ t,X.mg x=some (.int i t))(hg:Gl X x)(hd:(x == ("__debug__" : Str))=false:=by decide):PE X (.Name x pos) (tC (.int i)):=by
 obtain⟨t,h⟩:=hm
 exact ZlT hg h ⟨t,rfl⟩ hd
section
variable {H:Hp}{Q:VK}{i j:Int}
theorem Znt(h:Q (.bl (!decide (i=j))) H):rNe (.int i) (.int j) H Q:=⟨rfl,by have e:decide (V.int i=V.int j)=decide (i=j):=by { by_cases z:i=j<;>simp[z] };rw[e];exact h⟩
theorem Zf2{K:W.Frag}{a:Addr}{xs:List V}{P:Prop}(h:H a=some (.lst xs))(q:P):tyV K "list" (.ref a) H/\P:=⟨.inl ⟨rfl,xs,SqL.of h⟩,q⟩
end
end L2
end
section
namespace L2
open PySem PySem.Spec PyProof.Rows
section
variable {K:W.Frag}{h:Heap}{mg:Str->Option Value}
theorem ZbU{x:Str}{st:Stmt}{ps:List Str}{f:Addr}{oc kV doc pm cd ct:Value}{od an:Option Addr}{sl:Array (Option Value)}(X:K.In h)(G:h.Ns mainGlobals mg)
  (a:W.nsIn K mainGlobals x=some (some (.ref f))) (l:K.lookup f=some ⟨oc,od,.func (PySem.W.fnOf x x (defArgs st) (defBody st) (defScope st) .none kV doc pm an cd ct),sl⟩)
  (c:W.codeIn K cd x=true) (k:W.keepIn K (.ref f)=true)
  (hb:∀ (us:List Value),us.length=ps.length->bindArgs (PySem.W.fnOf x x (defArgs st) (defBody st) (defScope st) .none kV doc pm an cd ct) ⟨us,[]⟩=pure (ps.zip us)):Tx K mg x st ps [[]] :=
 ⟨.none,f,_,⟨⟨oc,od,kV,doc,pm,an,cd,ct,sl,rfl,l,c⟩,k⟩,PySem.W.mg_of X G a,λdvs hd=>by
  have e:dvs=[]:=by simpa using hd
  subst e
  exact⟨[],.all hb,.nil⟩⟩
theorem Zhk{x:Str}{st:Stmt}{ps:List Str}{f Tt:Addr}{oc kV doc pm cd ct oc':Value}{od an od':Option Addr}{sl sl':Array (Option Value)}{i:Int}{tk:Tok}{n:Nat}(X:K.In h)(G:h.Ns mainGlobals mg)
  (a:W.nsIn K mainGlobals x=some (some (.ref f))) (l:K.lookup f=some ⟨oc,od,.func (PySem.W.fnOf x x (defArgs st) (defBody st) (defScope st) (.ref Tt) kV doc pm an cd ct),sl⟩)
  (d:K.lookup Tt=some ⟨oc',od',.seq #[.int i tk] n,sl'⟩) (c:W.codeIn K cd x=true) (k:W.keepIn K (.ref f)=true)
  (hb:∀ (s:Shared) (us:List Value),K.In s.heap->us.length=ps.length->BindsTo s (PySem.W.fnOf x x (defArgs st) (defBody st) (defScope st) (.ref Tt) kV doc pm an cd ct) ⟨us,[]⟩ (ps.zip us))
  (hb2:∀ (s:Shared) (us:List Value),K.In s.heap->us.length+1=ps.length->BindsTo s (PySem.W.fnOf x x (defArgs st) (defBody st) (defScope st) (.ref Tt) kV doc pm an cd ct) ⟨us,[]⟩ (ps.zip (us++[.int i tk]))):Tx K mg x st ps [[],[.int i]] :=
 ⟨.ref Tt,f,_,⟨⟨oc,od,kV,doc,pm,an,cd,ct,sl,rfl,l,c⟩,k⟩,PySem.W.mg_of X G a,λdvs hd=>by
  rcases List.mem_cons.mp hd with e|hd
  ·subst e
   exact⟨[],λs us KX hl=>by rw[List.append_nil] at hl ⊢;exact hb s us KX hl,.nil⟩
  ·have e:dvs=[.int i]:=by simpa using hd
   subst e
   exact⟨[.int i tk],λs us KX hl=>hb2 s us KX (by simpa using hl),.cons ⟨tk,rfl⟩ .nil⟩⟩
theorem Zf3{x:Str}{i:Int}{t:Tok}(X:K.In h)(G:h.Ns mainGlobals mg)(a:W.nsIn K mainGlobals x=some (some (.int i t))):∃ t,mg x=some (.int i t):=⟨t,PySem.W.mg_of X G a⟩
end
end L2
end
section
namespace L2
open PySem PySem.Spec PyProof.Rows
theorem Znu{α:Type}[DecidableEq α]{f:α->PyData}{n:Nat}{K:W.Frag}{H:Hp}{x y:V}{a b:α}{Q:VK}(E:Enc f n)(h1:Rep K H x (f a))(h2:Rep K H y (f b))(q:Q (.bl (decide (a=b))) H)(hn:n<=32:=by decide):rEqD K x y H Q :=
 ⟨_,_,h1,h2,E.ok hn a,E.ok hn b,by rw[E.dec];exact q⟩
theorem Znv{α:Type}[DecidableEq α]{f:α->PyData}{n:Nat}{K:W.Frag}{H:Hp}{x y:V}{a b:α}{Q:VK}(E:Enc f n)(h1:Rep K H x (f a))(h2:Rep K H y (f b))(q:Q (.bl (!decide (a=b))) H)(hn:n<=32:=by decide):rNeD K x y H Q :=
 ⟨_,_,h1,h2,E.ok hn a,E.ok hn b,by rw[E.dec];exact q⟩
theorem iteN{c A B:Prop}[Decidable c](hc:¬ c)(h:B):if decide c=true then A else B:=by
 rw[decide_eq_false hc]
 exact iteF h
theorem Rep.ints{K:W.Frag}{H:Hp}{a:Addr}{ns:List Int}(h:SqL K H a (ns.map V.int)):Rep K H (.ref a) (PyData.list (ns.map PyData.int)):=.lst h (Reps.ints ns)
end L2
end
section
namespace L2
open PySem PySem.Spec PyProof.Rows
section
variable {K:W.Frag}{H:Hp}{v x:V}{Q:VK}{k i:Int}{d:PyData}{ds:List PyData}
theorem Rep.int_inv(h:Rep K H v (.int i)):v=.int i:=by cases h;rfl
theorem Rep.list_inv(h:Rep K H v (.list ds)):∃ a xs,v=.ref a/\SqL K H a xs/\Reps K H xs ds:=by
 cases h with
 | lst h r=>exact⟨_,_,rfl,h,r⟩
theorem Rep.tuple_inv(h:Rep K H v (.tuple ds)):∃ a xs,v=.ref a/\SqT K H a xs/\Reps K H xs ds:=by
 cases h with
 | tup h r=>exact⟨_,_,rfl,SqT.of h,r⟩
theorem Rep.tuple_at(h:Rep K H v (.tuple ds)):∃ a xs,v=.ref a/\H a=some (.tup xs)/\Reps K H xs ds:=by
 cases h with
 | tup h r=>exact⟨_,_,rfl,h,r⟩
theorem Zf4{α:Type}{xs:List α}{y:α}(h0:0<=k)(h:xs[k.toNat]?=some y):atI xs k=some y:=by
 obtain⟨j,rfl⟩:∃ j:Nat,k=j:=⟨k.toNat,by omega⟩
 exact ZiR (by simpa using h)
theorem Zkz(h:Rep K H x (.list ds))(q:Q (.int ds.length) H):rLen K [x] H Q:=by
 obtain⟨a,xs,rfl,h1,h2⟩:=h.list_inv
 exact⟨a,xs,rfl,.inl h1,by rw[h2.length];exact q⟩
theorem ZkA(h:Rep K H x (.tuple ds))(q:Q (.int ds.length) H):rLen K [x] H Q:=by
 obtain⟨a,xs,rfl,h1,h2⟩:=h.tuple_inv
 exact⟨a,xs,rfl,.inr h1,by rw[h2.length];exact q⟩
mutual
def noLst:PyData->Bool
 | .none=>true
 | .bool _=>true
 | .int _=>true
 | .str _=>true
 | .list _=>false
 | .tuple ds=>noLsts ds
 | .dict _=>false
def noLsts:List PyData->Bool
 | []=>true
 | d::ds=>noLst d && noLsts ds
end
theorem ZaB:∀ ns:List Int,noLsts (ns.map PyData.int)=true
 | []=>rfl
 | n::ns=>by simp[noLsts,noLst,ZaB ns]
theorem ZaW{α:Type}{f:α->PyData}(h:∀ a,noLst (f a)=true):∀ xs:List α,noLsts (xs.map f)=true
 | []=>rfl
 | x::xs=>by simp[noLsts,h x,ZaW h xs]
theorem Same.updF{D:Addr}{o:HO}(s:Same H H')(hD:H D=none):Same H (upd H' D o):=λb u e=>by rw[Zah (Zan e hD)];exact s b u e
def dI(ns:List Int):PyData:=.list (ns.map .int)
def tI(ns:List Int):PyData:=.tuple (ns.map .int)
def dRows(rows:List (List Int)):PyData:=.list (rows.map dI)
end
end L2
end
section
namespace L2
open PySem PySem.Spec PyProof.Rows
def lig(b:Int):Nat->Int->List Int
 | 0,_=>[]
 | f+1,n=>if 0<n then (n%b)::lig b f (n / b) else []
theorem Zhl{b n:Int}(hb:2<=b)(hb':b<=5)(hn:0<n):0<=n / b/\n / b<n/\2*(n / b)<=n:=by
 have:b=2\/b=3\/b=4\/b=5:=by omega
 rcases this with rfl|rfl|rfl|rfl<;>omega
theorem Zly{b:Int}(hb:2<=b)(hb':b<=5):∀ (f g:Nat) (n:Int),n.toNat<=f->n.toNat<=g->lig b f n=lig b g n
 | 0,0,_,_,_=>rfl
 | 0,g+1,n,h,_=>by
  have:¬ 0<n:=by omega
  simp only[lig,if_neg this]
 | f+1,0,n,_,h=>by
  have:¬ 0<n:=by omega
  simp only[lig,if_neg this]
 | f+1,g+1,n,h1,h2=>by
  by_cases h:0<n
  ·simp only[lig,if_pos h]
   have:=Zhl hb hb' h
   rw[Zly hb hb' f g (n / b) (by omega) (by omega)]
  ·simp only[lig,if_neg h]
def dig(b n:Int):List Int:=lig b n.toNat n
theorem ZgI{b n:Int}(hb:2<=b)(hb':b<=5)(h:0<n):dig b n=n%b::dig b (n / b):=by
 unfold dig
 obtain⟨k,hk⟩:∃ k,n.toNat=k+1:=⟨n.toNat-1,by omega⟩
 have:=Zhl hb hb' h
 rw[hk,lig,if_pos h,Zly hb hb' k (n / b).toNat (n / b) (by omega) (Nat.le_refl _)]
theorem ZcB{b n:Int}(h:¬ 0<n):dig b n=[]:=by
 unfold dig
 have:n.toNat=0:=by omega
 rw[this,lig]
def figs(b n:Int):List Int:=(dig b n).reverse
def num(b:Int)(ds:List Int):Int:=ds.foldl (λa d=>a*b+d) 0
theorem Ze9(b:Int)(ds:List Int)(d:Int):num b (ds++[d])=num b ds*b+d:=by
 unfold num
 rw[List.foldl_append]
 rfl
def Lig(b n:Int)(ds:List Int)(r:Int):Prop:=0<=r/\ds++dig b r=dig b n/\∃ k,r.toNat<2 ^ k/\ds.length+k=900
theorem Lig.start{b n:Int}(h0:0<=n)(h1:n.toNat<2 ^ 900):Lig b n [] n:=⟨h0,rfl,900,h1,rfl⟩
theorem Lig.step{b n r:Int}{ds:List Int}(hb:2<=b)(hb':b<=5)(L:Lig b n ds r)(h:0<r):Lig b n (ds++[r%b]) (r / b)/\ds.length<900/\(r / b).toNat<r.toNat:=by
 obtain⟨h0,h1,k,h2,h3⟩:=L
 have hd:=Zhl hb hb' h
 match k,h2,h3 with
 | 0,h2,_=>simp at h2;omega
 | k+1,h2,h3 =>
  rw[Nat.pow_succ] at h2
  refine⟨⟨hd.1,?_,k,by omega,by simp;omega⟩,by omega,by omega⟩
  rw[List.append_assoc,<- h1,ZgI hb hb' h]
  rfl
theorem Lig.done{b n r:Int}{ds:List Int}(L:Lig b n ds r)(h:¬ 0<r):ds=dig b n/\ds.length<=900:=by
 obtain⟨h0,h1,k,h2,h3⟩:=L
 rw[ZcB h,List.append_nil] at h1
 exact⟨h1,by omega⟩
theorem ZiZ{b n:Int}(hb:2<=b)(hb':b<=5):∀ (k:Nat) (n:Int),n.toNat<2 ^ k->(dig b n).length<=k
 | 0,n,h=>by
  rw[ZcB (by simp at h;omega)]
  exact Nat.le_refl _
 | k+1,n,h=>by
  by_cases hn:0<n
  ·rw[ZgI hb hb' hn,List.length_cons]
   have hd:=Zhl hb hb' hn
   rw[Nat.pow_succ] at h
   have:=ZiZ (n:=n) hb hb' k (n / b) (by omega)
   omega
  ·rw[ZcB hn]
   exact Nat.zero_le _
end L2
end
section
namespace L2
open PySem PySem.Spec PyProof.Rows
section
variable {X:Cx}{K:W.Frag}
theorem ZaQ(h:X.K=K):CallR X (.type "tuple") (rTpl K):=h▸ZiY
theorem ZkB(h:X.K=K):OpR X (binaryOp .Add) (rCatT K):=h▸ZlZ
theorem Zl5(h:X.K=K)(hu:X.A.units+64<cLine):OpR X (compareOp .Eq) (rEqD K):=h▸Znr hu
theorem Zl6(h:X.K=K)(hu:X.A.units+64<cLine):OpR X (compareOp .NotEq) (rNeD K):=h▸Zns hu
theorem Zfa{es:List Expr}{k:Nat}{t:TGs}{n:Nat}{pos:Pos}(h:X.K=K)(hc:X.calm=true)(hg:PGs X es t)(hn:(assignEach es X.env).length=n:=by rfl)(hst:(assignEach es X.env).findIdx? (·.1)=none:=by rfl):PG X (.Tuple es k pos) (gTup K n t):=h▸Zng hc hg hn hst
variable {o e:Expr}{es:List Expr}{to:TE}{t:TA}{name:Str}{apos cpos:Pos}{T id:String}{r:V->List V->Hp->VK->Prop}
theorem Zl7(h:X.K=K)(pa:PlainAttrs T)(slot:Slot T name id)(hty:typeOf (.builtin id)=pure (.type "method_descriptor"))(hm:MtR X id r)(ho:PE X o to)
  (hbase:attributeBase o name X.env (eval o X.env)=eval o X.env:=by rfl) (hline:(apos.endLine == cpos.line)=true:=by rfl):PE X (.Call (.Attribute o name apos) [] [] cpos) (tBM0 K T r to):=h▸Znn pa slot hty hm ho hbase hline
theorem ZcK(h:X.K=K)(pa:PlainAttrs T)(slot:Slot T name id)(hty:typeOf (.builtin id)=pure (.type "method_descriptor"))(hm:MtR X id r)(ho:PE X o to)(ha:PA X (e::es) t)
  (hbase:attributeBase o name X.env (eval o X.env)=eval o X.env:=by rfl)
  (hfew:((backTo cpos (starEach (e::es) X.env)).all (λx=>!x.1) && (backToKw cpos (keywordEach [] X.env)).all (λx=>x.1.isSome)
   && decide ((e::es).length+([]:List Keyword).length+(if ([]:List Keyword).isEmpty then 0 else 1)<30))=true:=by rfl)
  (hline:(apos.endLine == cpos.line)=true:=by rfl) (hs:starEach (e::es) X.env=(false,eval e X.env)::starEach es X.env:=by rfl) (hplain:(backTo cpos (starEach es X.env)).any (·.1)=false:=by rfl) :
  PE X (.Call (.Attribute o name apos) (e::es) [] cpos) (tBM K T r to t):=h▸Zo0 pa slot hty hm ho ha hbase hfew hline hs hplain
end
end L2
end
section
namespace L2
open PySem PySem.Spec PyProof.Rows
def Ite(K:W.Frag)(a:Addr):It :=
  ⟨λi H=>∃ xs x,SqL K H a xs/\xs[i]?=some x,
   λi H v H'=>∃ p x,H p=none/\v=.ref p/\H'=upd H p (.tup [.int i,x])/\∀ xs,SqL K H a xs->xs[i]?=some x,
   λi H=>∃ xs,SqL K H a xs/\xs.length<=i⟩
theorem Inv.enumed{X:Cx}{pins:List (Addr×Obj)}{σ:St}{H:Hp}{s:Shared}{h':Heap}{t':Nat}{e it:Addr}{xs:List V}{us:List Value}(I:Inv X pins σ H s)
  (fe:FpOk X pins H e) (fi:FpOk X pins H it) (k:∀ b o,b≠e->b≠it->s.heap.get? b=some o->h'.get? b=some o)
  (ht:h'.get? s.heap.objs.size=some { cls:=.type "tuple",data:=.seq us.toArray }) (hv:Vals xs us) (hz:xs.length<=sizeLine) :
  Inv X pins σ (upd H s.heap.objs.size (.tup xs)) { s with heap:=h',toks:=t' }:=by
 have hp:H s.heap.objs.size=none:=I.hok.fresh (Nat.le_refl _)
 have ne:∀ b o,s.heap.get? b=some o->b≠s.heap.objs.size:=λb o q=>Nat.ne_of_lt (Heap.lt_size q)
 have nt:∀ b u,H b=some u->b≠e/\b≠it:=λb u q=>⟨(Zan q fe.1),(Zan q fi.1)⟩
 have np:∀ b u,H b=some u->b≠s.heap.objs.size:=λb u q=>Zan q hp
 refine I.step (g':=s.gens) (d':=s.drawn) (ch:=[e,it]) (λb hb=>?_) (λb o _ _ hc q _=>k b o (λz=>hc (by simp[z])) (λz=>hc (by simp[z])) q)
  (λb o _ _ hc q _=>⟨o.slots,k b o (λz=>hc (by simp[z])) (λz=>hc (by simp[z])) q⟩) (λb o _ q n=>by rw[Zah (ne b o q)];exact n)
  (λb o hc q=>⟨o,k b o (λz=>hc (by simp[z])) (λz=>hc (by simp[z])) q⟩) (λb ys q=>by rw[Zah (np b _ q)];exact q) (λb o u q=>by rw[Zah (np b _ q)];exact q)
  (λb ps q=>⟨#[],by rw[Zah (np b _ q),q];simp⟩) (λm hm=>?_) (λb u q=>?_) I.bare
 ·have hb:b=e\/b=it:=by simpa using hb
  rcases hb with rfl|rfl
  ·exact⟨fe.2.2.2.1,fe.2.1,fe.2.2.2.2.1,fe.2.2.2.2.2⟩
  ·exact⟨fi.2.2.2.1,fi.2.1,fi.2.2.2.2.1,fi.2.2.2.2.2⟩
 ·obtain⟨o,es,ep,ho,r⟩:=hm
  exact⟨o,es,ep,k _ o (Ne.symm fe.2.1) (Ne.symm fi.2.1) ho,r⟩
 ·by_cases hb:b=s.heap.objs.size
  ·subst hb
   rw[Zak] at q
   cases q
   exact⟨hz,us,hv,⟨_,ht,rfl,⟨_,rfl⟩,rfl⟩⟩
  ·rw[Zah hb] at q
   refine (I.hok b u q).stay (λc v hc r=>?_) (λc r=>by rw[Zah (np c _ r)];exact r) λc ys r=>by rw[Zah (np c _ r)];exact r
   rcases hc with z|z
   ·rw[z] at r ⊢;exact k _ _ (nt b u q).1 (nt b u q).2 r
   ·exact k _ _ (nt c _ z).1 (nt c _ z).2 r
theorem Zi0{P:Program}{w:World}{K:W.Frag}{es:List Expr}{x1}{tp:Pos}(a e it:Addr)(hne:e≠it):Turn P w K (.Tuple es x1 tp) (Ite K a) [e,it] e (λi h=>(∃ old,IsEnum h e it i old)/\h.IsListIter it a i) where
 mem:=by simp
 obj:=λi h st b hb=>by
  obtain⟨⟨old,he⟩,o,hi,hc,hd⟩:=st
  have hb:b=e\/b=it:=by simpa using hb
  rcases hb with rfl|rfl
  ·exact⟨_,he,λv z=>by cases (show Data.fields _=Data.cell v from z)⟩
  ·exact⟨o,hi,λv z=>by rw[hd] at z;cases z⟩
 keep:=λi h h' st k=>by
  obtain⟨⟨old,he⟩,hi⟩:=st
  exact⟨⟨old,k e (by simp) _ he⟩,hi.at λo q=>k it (by simp) o q⟩
 item:=by
  intro X hP hw hK hc i pins s σ H E I hf st hg
  subst hP hw hK
  obtain⟨xs,x,hq,hx⟩:=hg
  obtain⟨⟨old,he⟩,hi⟩:=st
  obtain⟨its,rv,p,hz⟩:=I.list hq
  obtain⟨u,hu,ru⟩:=rv.get hx
  refine wpAny_pyNext_enum_item he hi p.isList (x:=u) (by simpa using hu) hne λh' ho hi' ht hsz k=>?_
  refine⟨_,rfl,wpAny_letOwnedTupleGo_enum ho λh2 he2 hs2=>?_⟩
  have fe:=hf e (by simp)
  have fi:=hf it (by simp)
  have I1:Inv X pins σ (upd H s.heap.objs.size (.tup [.int i,x])) { s with heap:=h',toks:=s.toks+1 }:=I.enumed fe fi k ht (.cons ⟨_,rfl⟩ (.cons ru .nil)) (by show 2<=sizeLine;decide)
  have he1:e≠s.heap.objs.size:=Nat.ne_of_lt (Heap.lt_size he)
  have hi1:it≠s.heap.objs.size:=by obtain⟨_,q,_⟩:=hi;exact Nat.ne_of_lt (Heap.lt_size q)
  have I2:=I1.turned (h':=h2) (t':=s.toks+1) (it:=e) (λb o hb q=>(hs2.2 b hb).trans q) (by rw[Zah he1];exact fe.1) fe.2.1 fe.2.2.2.1 fe.2.2.2.2.1 fe.2.2.2.2.2
  refine⟨.ref s.heap.objs.size,_,I2,rfl,⟨s.heap.objs.size,x,I.hok.fresh (Nat.le_refl _),rfl,rfl,λys hy=>by rw[I.list_inj hy hq];exact hx⟩,⟨⟨u,by simpa using he2⟩,hi'.at λo q=>(hs2.2 it hne.symm).trans q⟩,λb hb=>?_⟩
  have hb:b=e\/b=it:=by simpa using hb
  rcases hb with rfl|rfl
  ·rw[Zah he1];exact fe.1
  ·rw[Zah hi1];exact fi.1
 done:=by
  intro X hP hw hK hc i pins s σ H E I hf st hg
  subst hP hw hK
  obtain⟨xs,hq,hx⟩:=hg
  obtain⟨⟨old,he⟩,hi⟩:=st
  obtain⟨its,rv,p,hz⟩:=I.list hq
  obtain⟨f0,f1,f2,f3,f4,f5⟩:=hf it (by simp)
  have hl:=rv.length
  exact wpAny_pyNext_enum_end (I.ok.hd hc) he hi p.isList (by simp;omega) λh' eb=>⟨rfl,I.turned (t':=s.toks) (λb o hb e=>eb b o hb e) f0 f1 f3 f4 f5⟩
 self:=λ_ _ _ _ _ st h=>by
  obtain⟨⟨old,he⟩,_⟩:=st
  exact wpAny_pyIter_enum he h
def iEnum(K:W.Frag)(ta:TA):TI:=λσ H R=>ta σ H λvs H1=>∃ a,vs=[.ref a]/\(∃ xs,SqL K H1 a xs)/\R (Ite K a) H1
theorem Zhm{X:Cx}{K:W.Frag}{a:Expr}{ta:TA}{es:List Expr}{x1}{tp p pos:Pos}(hK:X.K=K)(hg:Gl X "enumerate")(hm:X.mg "enumerate" = none)(ha:PA X [a] ta)(hs:starEach [a] X.env=[(false,eval a X.env)]:=by rfl) :
  PI X (.Tuple es x1 tp) (.Call (.Name "enumerate" p) [a] [] pos) (iEnum K ta):=by
 subst hK
 intro pins s σ H R I h
 refine Call_ (ZfQ I hg hm PyProof.Rows.boot_enumerate (PyProof.Rows.callWith_type1 (thn (ha pos pins s σ H _ I h) λus s1 h1=>?_) hs rfl))
 obtain⟨vs,H1,I1,r1,a,e,⟨xs,hq⟩,q⟩:=h1
 subst e
 cases r1 with
 | cons r rr =>
  cases rr
  cases (show _=Value.ref a from r)
  obtain⟨its,rv,p,hz⟩:=I1.list hq
  refine call_enumerate_list p.isList λh' he hi hsz k=>?_
  refine wpAny_pyIter_enum he ?_
  have I2:Inv X pins σ H1 { s1 with heap:=h' }:=I1.kept (t':=s1.toks) k
  refine⟨_,[s1.heap.objs.size+1,s1.heap.objs.size],_,Ite X.K a,H1,rfl,I2,Zi0 a _ _ (Nat.ne_of_gt (Nat.lt_succ_self _)),⟨⟨_,he⟩,hi⟩,λb hb=>?_,q⟩
  have hb:b=s1.heap.objs.size+1\/b=s1.heap.objs.size:=by simpa using hb
  rcases hb with rfl|rfl
  ·exact I1.fpOk (Nat.le_succ _) (I1.hok.fresh (Nat.le_succ _))
  ·exact I1.fpOk (Nat.le_refl _) (I1.hok.fresh (Nat.le_refl _))
end L2
end
section
namespace L2
open PySem PySem.Spec PyProof.Rows
theorem Enc.mono{α:Type}{f:α->PyData}{n m:Nat}(E:Enc f n)(h:n<=m):Enc f m:=⟨E.eqv,E.lay,λa=>Nat.le_trans (E.dep a) h⟩
abbrev FK:=Value->Option Addr->St->Hp->Prop
def toF(E:XK):FK:=λc d _ H=>E c d H
end L2
end
section
namespace L2
open PySem PySem.Spec PyProof.Rows
theorem d_KT{P:Program}{w:World}{h:Heap}{a:Addr}(x:h.DictOf (mixKind P w) a []):h.DictOfH (tupleKind (mixKind P w)) a []:=by
 obtain⟨o,es,ep,h3,h4,h5,h6,h7,h8⟩:=x
 refine⟨o,es,ep,h3,h4,h5,?_,⟨λx z=>absurd z (by simp),List.nodup_nil⟩⟩
 generalize es.toList=l at h7
 cases h7
 rfl
theorem d_TK{P:Program}{w:World}{h:Heap}{a:Addr}(x:h.DictOfH (tupleKind (mixKind P w)) a []):h.DictOf (mixKind P w) a []:=by
 obtain⟨o,es,ep,h3,h4,h5,h6,h7,h8⟩:=x
 have e:es.toList=[]:=by simpa using h6
 refine⟨o,es,ep,h3,h4,h5,λk hk=>?_,by rw[e];exact .nil,List.nodup_nil⟩
 have:k∈es.toList:=by simpa using hk
 rw[e] at this
 exact nomatch this
theorem Znw{P:Program}{w:World}{H H':Hp}{h:Heap}{a:Addr}(x:ObjOk P w H h a (.dK [])):ObjOk P w H' h a (.dT []):=by
 obtain⟨h1,h2,vs,rel,dd⟩:=x
 cases rel
 obtain⟨o,es,ep,h3,h4,h5,h6,_,h7⟩:=d_KT dd
 exact⟨h1,h2,[],.nil,o,es,ep,h3,h4,h5,h6,h7⟩
theorem ZkC{P:Program}{w:World}{H H':Hp}{h:Heap}{a:Addr}(x:ObjOk P w H h a (.dT [])):ObjOk P w H' h a (.dK []):=by
 obtain⟨h1,h2,xs,rel,o,es,ep,h3,h4,h5,h6,h7⟩:=x
 cases rel
 exact⟨h1,h2,[],.nil,d_TK ⟨o,es,ep,h3,h4,h5,h6,⟨λx z=>absurd z (by simp),h7⟩⟩⟩
def KeyN(H:Hp)(b:Addr)(k:Key×List Key):Prop:=∃ c,H b=some (.tup [kV k.1,.ref c])/\H c=some (.tup (k.2.map kV))
theorem Zdx{P:Program}{w:World}{H:Hp}{h:Heap}{b:Addr}{k:Key×List Key}(ok:HOk P w H h)(e:KeyN H b k):(pairKind (mixKind P w)).is h k b:=by
 obtain⟨c,e1,e2⟩:=e
 obtain⟨_,its,r,o,h1,h2,⟨n,h3⟩,_⟩:=(show ObjOk P w H h b (.tup [kV k.1,.ref c]) from ok b _ e1)
 cases r with
 | cons r1 r =>
  cases r with
  | cons r2 r =>
   cases r
   have r2:_=Value.ref c:=r2
   subst r2
   exact⟨o,_,n,_,c,h1,h2,h3,rfl,ZgG r1,Zd3 ok e2⟩
abbrev KN(H:Hp):List ((Key×List Key)×V)->List ((Key×List Key)×Addr×Value)->Prop:=Paired λp q=>p.1=q.1/\(∃ b,H q.2.1=some (.tup [kV p.1.1,.ref b])/\H b=some (.tup (p.1.2.map kV)))/\RelV p.2 q.2.2
theorem KN.val{H:Hp}{kvs:List ((Key×List Key)×V)}{xs:List ((Key×List Key)×Addr×Value)}(r:KN H kvs xs)(k:Key×List Key):RelO (valV kvs k) ((atKey xs k).map (·.2)):=by
 induction r with
 | nil=>exact True.intro
 | @cons p q ps qs h t ih =>
  by_cases e:p.1=k
  ·have b:atKey (q::qs) k=some q.2:=by simp[atKey,List.find?_cons,h.1.symm.trans e]
   rw[Zc8 e,b];exact h.2.2
  ·have e':¬ q.1=k:=λz=>e (h.1.trans z)
   have b:atKey (q::qs) k=atKey qs k:=by simp[atKey,List.find?_cons,e']
   rw[Zc9 e,b];exact ih
theorem KN.put{H:Hp}{kvs:List ((Key×List Key)×V)}{xs:List ((Key×List Key)×Addr×Value)}(r:KN H kvs xs)(k:Key×List Key){b:Addr}{y:V}{u:Value}(hb:KeyN H b k)(ry:RelV y u):KN H (putK kvs k y) (storedH xs k b u):=by
 have e:(kvs.any λkv=>decide (kv.1=k))=(atKey xs k).isSome:=by
  rw[ZdS,(r.val k).isSome_eq,Option.isSome_map]
 unfold putK storedH
 rw[e]
 by_cases q:(atKey xs k).isSome=true
 ·rw[if_pos q,if_pos q]
  clear e q
  induction r with
  | nil=>exact .nil
  | @cons p q ps qs h t ih =>
   rw[List.map_cons,List.map_cons]
   refine .cons ?_ ih
   unfold putAt
   by_cases e:p.1=k
   ·rw[if_pos e,if_pos (h.1.symm.trans e)];exact⟨h.1,h.2.1,ry⟩
   ·rw[if_neg e,if_neg (λz=>e (h.1.trans z))];exact h
 ·rw[if_neg q,if_neg q]
  exact Paired.snoc r ⟨rfl,hb,ry⟩
theorem KN.keeps{H H':Hp}{kvs:List ((Key×List Key)×V)}{xs:List ((Key×List Key)×Addr×Value)}(r:KN H kvs xs)(ht:∀ b ys,H b=some (.tup ys)->H' b=some (.tup ys)):KN H' kvs xs :=
 Paired.mapP r λ_ _ z=>⟨z.1,let ⟨b,z1,z2⟩:=z.2.1;⟨b,ht _ _ z1,ht _ _ z2⟩,z.2.2⟩
theorem Zi1{P:Program}{w:World}{H:Hp}{h:Heap}{a:Addr}{kvs:List ((Key×List Key)×V)}(ok:HOk P w H h)(e:Rd H a (.dN kvs)):kvs.length<=sizeLine/\(a == sysModules)=false/\∃ xs,KN H kvs xs/\h.DictOfH (pairKind (mixKind P w)) a xs:=by
 obtain⟨z,y,xs,r,o,es,ep,h1,h2,h3,h4,h5⟩:=(show ObjOk P w H h a (.dN kvs) from Zl2 ok e)
 refine⟨z,y,xs,r,o,es,ep,h1,h2,h3,h4,λx hx=>?_,h5⟩
 have all:∀ {l:List ((Key×List Key)×V)} {m:List ((Key×List Key)×Addr×Value)},KN H l m->∀ x∈m,(pairKind (mixKind P w)).is h x.1 x.2.1:=by
  intro l m q
  induction q with
  | nil=>intro x hx;exact nomatch hx
  | @cons p q ps qs hq t ih =>
   intro x hx
   rcases List.mem_cons.mp hx with e|hx
   ·subst e
    exact Zdx ok (by rw[<- hq.1];exact hq.2.1)
   ·exact ih x hx
 exact all r x hx
theorem d_KN{P:Program}{w:World}{h:Heap}{a:Addr}(x:h.DictOf (mixKind P w) a []):h.DictOfH (pairKind (mixKind P w)) a []:=by
 obtain⟨o,es,ep,h3,h4,h5,h6,h7,h8⟩:=x
 refine⟨o,es,ep,h3,h4,h5,?_,⟨λx z=>absurd z (by simp),List.nodup_nil⟩⟩
 generalize es.toList=l at h7
 cases h7
 rfl
theorem Znx{P:Program}{w:World}{H H':Hp}{h:Heap}{a:Addr}(x:ObjOk P w H h a (.dK [])):ObjOk P w H' h a (.dN []):=by
 obtain⟨h1,h2,vs,rel,dd⟩:=x
 cases rel
 obtain⟨o,es,ep,h3,h4,h5,h6,_,h7⟩:=d_KN dd
 exact⟨h1,h2,[],.nil,o,es,ep,h3,h4,h5,h6,h7⟩
theorem Zny{P:Program}{w:World}{H:Hp}{h:Heap}{a:Addr}(ok:HOk P w H h)(e:Rd H a (.dK [])\/Rd H a (.dT [])):(a == sysModules)=false/\h.DictOf (mixKind P w) a []:=by
 rcases e with e|e
 ·obtain⟨z,hd,vs,rel,dd⟩:=Zif ok e
  cases rel
  exact⟨hd,dd⟩
 ·obtain⟨z,hd,vs,rel,dd⟩:=Zig ok e
  cases rel
  exact⟨hd,d_TK dd⟩
theorem Zda{P:Program}{w:World}{A:Around}(hu:A.units+2<cLine):(pairKind (mixKind P w)).room A.in1:=⟨by show A.units+1<cLine;omega,by show A.units+1+1<cLine;omega⟩
def DGetN(H:Hp)(a:Addr)(y:V)(r:Option V):Prop:=∃ kvs k b,Rd H a (.dN kvs)/\y=.ref b/\KeyN H b k/\r=valV kvs k
def DGetA(H:Hp)(a:Addr)(y:V)(r:Option V):Prop:=DGet H a y r\/DGetN H a y r
def DGet0(H:Hp)(a:Addr)(y:V)(r:Option V):Prop:=DGet H a y r\/(r=none/\(∃ k,y=kV k)/\Rd H a (.dT []))\/(r=none/\(∃ (k:List Key) (b:Addr),y=.ref b/\H b=some (.tup (k.map kV)))/\Rd H a (.dK []))\/DGetN H a y r\/(r=none/\(∃ (k:Key×List Key) (b:Addr),y=.ref b/\KeyN H b k)/\(Rd H a (.dK [])\/Rd H a (.dT [])))
def DPut0(H:Hp)(a:Addr)(y v:V)(H':Hp):Prop:=DPut H a y v H'\/(∃ k,y=kV k/\H a=some (.dT [])/\H'=upd H a (.dK [(k,v)]))\/(∃ (k:List Key) (b:Addr),y=.ref b/\H b=some (.tup (k.map kV))/\H a=some (.dK [])/\H'=upd H a (.dT [(k,v)]))\/(∃ kvs k b,H a=some (.dN kvs)/\y=.ref b/\KeyN H b k/\kvs.length<sizeLine/\H'=upd H a (.dN (putK kvs k v)))\/(∃ (k:Key×List Key) (b:Addr),y=.ref b/\KeyN H b k/\(H a=some (.dK [])\/H a=some (.dT []))/\H'=upd H a (.dN [(k,v)]))
section
variable {X:Cx}{pins:List (Addr×Obj)}{σ:St}{H:Hp}{s:Shared}{a:Addr}{y v:V}{u r:Value}{o:Option V}{A:Around}{E:Value->Shared->Prop}
theorem Zlz{kvs:List ((Key×List Key)×V)}{k:Key×List Key}{b:Addr}{Q:Unit->Shared->Prop}(hu:A.units+2<cLine)(I:Inv X pins σ H s)(e:H a=some (.dN kvs))(eb:KeyN H b k)(l:kvs.length<sizeLine)(ry:RelV (.ref b) u)(rv:RelV v r)(h:∀ s',Inv X pins σ (upd H a (.dN (putK kvs k v))) s'->Q () s') :
  wpAny (model X.prog X.w) A (setItem (.ref a) u r) Q E s:=by
 cases (show u=Value.ref b from ry)
 obtain⟨z,hd,xs,rel,dd⟩:=Zi1 I.hok (.inl e)
 have hz:xs.length<=sizeLine:=by rw[<- Paired.length rel];exact z
 have hl:(putK kvs k v).length<=sizeLine:=by have:=Zbh kvs k v;omega
 refine wpAny_setItem_heap (hsz:=hz) (Zda hu) (Zdx I.hok eb) dd λh' dd' hs=>h _ ?_
 obtain⟨q,es,ep,hq,h2,h3,h4,_,h5⟩:=dd'
 refine Zbr I (by rw[e];exact True.intro) hs ⟨q,hq⟩ ⟨hl,hd,_,(rel.put k eb rv).keeps λc ys ec=>?_,q,es,ep,hq,h2,h3,h4,h5⟩
 rw[Zah (ZfP ec e (λz=>nomatch z))]
 exact ec
theorem Znz{k:Key×List Key}{b:Addr}{kvs:List ((Key×List Key)×V)}{Q:Value->Shared->Prop}(hu:A.units+2<cLine)(I:Inv X pins σ H s)(e:Rd H a (.dN kvs))(eb:KeyN H b k)(l:some v=valV kvs k)(ry:RelV (.ref b) u)(h:∀ w' s',Inv X pins σ H s'->RelV v w'->Q w' s') :
  wpAny (model X.prog X.w) A (getItem (.ref a) u) Q E s:=by
 cases (show u=Value.ref b from ry)
 obtain⟨z,hd,xs,rel,dd⟩:=Zi1 I.hok e
 obtain⟨w',hw,rw'⟩:=RelO.some_of (v:=v) (o:=(atKey xs k).map (·.2)) (by rw[l];exact rel.val k)
 obtain⟨p,hp,hp2⟩:=Option.map_eq_some_iff.mp hw
 refine wpAny_getItem_heap (Zda hu) (Zdx I.hok eb) dd hp ?_
 rw[hp2]
 exact h w' _ (I.tok _) rw'
theorem ZkD{Q:Value->Shared->Prop}(hu:A.units+2<cLine)(I:Inv X pins σ H s)(g:DGet0 H a y o)(ry:RelV y u)(h:∀ s',Inv X pins σ H s'->Q (.bool (!o.isSome)) s') :
  wpAny (model X.prog X.w) A (compareOp .NotIn u (.ref a)) Q E s:=by
 rcases g with g|⟨rfl,⟨k,rfl⟩,e⟩|⟨rfl,⟨k,b,rfl,eb⟩,e⟩|⟨kvs,k,b,e,rfl,eb,rfl⟩|⟨rfl,⟨k,b,rfl,eb⟩,e⟩
 ·exact Zl3 (by omega) I g ry h
 ·obtain⟨z,hd,vs,rel,dd⟩:=Zig I.hok e
  cases rel
  exact wpAny_notIn_of (ZgG ry) hd (d_TK dd).mapOf (h _ (I.tok _))
 ·obtain⟨z,hd,vs,rel,dd⟩:=Zif I.hok e
  cases rel
  cases (show u=Value.ref b from ry)
  exact wpAny_notIn_heap (tupleKind_room_in1 (by omega)) (Zd3 I.hok eb) hd (d_KT dd) (h _ (I.tok _))
 ·obtain⟨z,hd,xs,rel,dd⟩:=Zi1 I.hok e
  cases (show u=Value.ref b from ry)
  refine wpAny_notIn_heap (Zda hu) (Zdx I.hok eb) hd dd ?_
  have q:=(rel.val k).isSome_eq
  rw[Option.isSome_map] at q
  rw[<- q]
  exact h _ (I.tok _)
 ·obtain⟨hd,dd⟩:=Zny I.hok e
  cases (show u=Value.ref b from ry)
  exact wpAny_notIn_heap (Zda hu) (Zdx I.hok eb) hd (d_KN dd) (h _ (I.tok _))
theorem Zii{H':Hp}{Q:Unit->Shared->Prop}(hu:A.units+2<cLine)(I:Inv X pins σ H s)(g:DPut0 H a y v H')(ry:RelV y u)(rv:RelV v r)(h:∀ s',Inv X pins σ H' s'->Q () s') :
  wpAny (model X.prog X.w) A (setItem (.ref a) u r) Q E s:=by
 have big:([]:List (Key×V)).length<sizeLine:=by decide
 have big':([]:List (List Key×V)).length<sizeLine:=by decide
 rcases g with g|⟨k,rfl,e,rfl⟩|⟨k,b,rfl,eb,e,rfl⟩|⟨kvs,k,b,e,rfl,eb,l,rfl⟩|⟨k,b,rfl,eb,e,rfl⟩
 ·exact Zd4 (by omega) I g ry rv h
 ·have x:=I.hok a _ e
  obtain⟨q,hq⟩:∃ q,s.heap.get? a=some q:=by obtain⟨_,_,_,_,q,_,_,hq,_⟩:=x;exact⟨q,hq⟩
  have J:Inv X pins σ (upd H a (.dK [])) s:=Zbr (t':=s.toks) I (by rw[e];exact True.intro) (Heap.SameBut.refl a s.heap) ⟨q,hq⟩ (ZkC x)
  refine Zd4 (by omega) J (DPut.k (k:=k) (v:=v) Zak big) ry rv λs' J'=>h s' ?_
  rw[Zdu] at J'
  exact J'
 ·have x:=I.hok a _ e
  obtain⟨q,hq⟩:∃ q,s.heap.get? a=some q:=by obtain⟨_,_,_,_,q,_,_,hq,_⟩:=x;exact⟨q,hq⟩
  have J:Inv X pins σ (upd H a (.dT [])) s:=Zbr (t':=s.toks) I (by rw[e];exact True.intro) (Heap.SameBut.refl a s.heap) ⟨q,hq⟩ (Znw x)
  refine Zd4 (by omega) J (DPut.t (k:=k) (v:=v) Zak (by rw[Zah (ZfP eb e (λz=>nomatch z))];exact eb) big') ry rv λs' J'=>h s' ?_
  rw[Zdu] at J'
  exact J'
 ·exact Zlz hu I e eb l ry rv h
 ·have x:ObjOk X.prog X.w H s.heap a (.dK []):=by
   rcases e with e|e
   ·exact I.hok a _ e
   ·exact ZkC (I.hok a _ e)
  obtain⟨q,hq⟩:∃ q,s.heap.get? a=some q:=by obtain⟨_,_,_,_,q,_,_,hq,_⟩:=x;exact⟨q,hq⟩
  have mu:Mut (H a):=by rcases e with e|e<;>rw[e]<;>exact True.intro
  have J:Inv X pins σ (upd H a (.dN [])) s:=Zbr (t':=s.toks) I mu (Heap.SameBut.refl a s.heap) ⟨q,hq⟩ (Znx x)
  have nt:∀ c ys,H c=some (.tup ys)->upd H a (.dN []) c=some (.tup ys):=λc ys ec=>by
   rw[Zah (by rcases e with e|e<;>exact ZfP ec e (λz=>nomatch z))];exact ec
  refine Zlz hu J Zak (let ⟨c,e1,e2⟩:=eb;⟨c,nt _ _ e1,nt _ _ e2⟩) (by decide) ry rv λs' J'=>h s' ?_
  rw[Zdu] at J'
  exact J'
end
section
variable {X:Cx}
def rInDc(neg:Bool):R2:=λx y H Q=>∃ a r,y=.ref a/\DGet0 H a x r/\Q (.bl (if neg then !r.isSome else r.isSome)) H
theorem Zij(hu:X.A.units+64<cLine):OpR X (compareOp .NotIn) (rInDc true):=by
 intro pins s σ H x y v u Q I rx ry h
 obtain⟨a,r,rfl,g,q⟩:=h
 cases ry
 exact ZkD (by omega) I g rx λs' J=>⟨.bl _,H,J,rfl,q⟩
def rIxDc:R2:=λx y H Q=>∃ a v,x=.ref a/\DGetA H a y (some v)/\Q v H
theorem ZnA(hu:X.A.units+64<cLine):IxR X rIxDc:=by
 intro value slice pins s σ H x y v u Q I rx ry h hs
 obtain⟨a,w',rfl,g,q⟩:=h
 cases rx
 have hT:s.TypeIs (.ref a) "dict" := by
  rcases g with g|⟨kvs,k,b,e,_⟩
  ·exact ZgH I g
  ·obtain⟨_,_,xs,_,o,es,ep,h1,h2,_⟩:=Zi1 I.hok e
   exact⟨o,h1,h2.1⟩
 unfold subscriptTail
 refine wpAny_bind ?_
 rw[getitemInPython_of_ne hT.not_modules]
 refine wpAny_bind (wpAny_specialOf hT PySem.F.slot_dict_getitem.lookup ?_)
 have fin:wpAny (model X.prog X.w) X.A (subscripted slice false (.ref a) u) (λr s₃=>wpAny (model X.prog X.w) X.A (letTemporaryGo value (.ref a) r >>= λ_=>pure r) (EP X pins σ Q) X.xe s₃) X.xe s:=by
  rw[hs]
  rcases g with g|⟨kvs,k,b,e,rfl,eb,l⟩
  ·exact wpAny_operating (ZiV (by omega) I g ry λr s' J rr=>wpAny_bind (wpAny_letTemporaryGo (wpAny_pure ⟨w',H,J,rr,q⟩)))
  ·exact wpAny_operating (Znz (by omega) I e eb l ry λr s' J rr=>wpAny_bind (wpAny_letTemporaryGo (wpAny_pure ⟨w',H,J,rr,q⟩)))
 first
  | exact wpAny_pure (wpAny_bind fin)
  | exact wpAny_bind (wpAny_pure (wpAny_bind fin))
  | exact wpAny_bind fin
def rSetDc:TSet:=λo i v H Q=>∃ a H',o=.ref a/\DPut0 H a i v H'/\Q H'
def rSetA:TSet:=λo i v H Q=>rSetL o i v H Q\/rSetDc o i v H Q
theorem Zfb(hu:X.A.units+64<cLine):PSet X rSetA:=by
 intro pins s σ H o i v ov iv u Q I ro ri rv h
 rcases h with h|⟨a,H',rfl,g,q⟩
 ·exact Zkw pins s σ H o i v ov iv u Q I ro ri rv h
 ·cases ro
  exact Zii (by omega) I g ri rv λs' J=>⟨H',J,q⟩
end
section
variable {κ:Type}[DecidableEq κ]{α:Type}[DecidableEq α]
def getA{β:Type}(kvs:List (α×β))(k:α):Option β:=(kvs.find? λkv=>decide (kv.1=k)).map (·.2)
def putA{β:Type}(kvs:List (α×β))(k:α)(v:β):List (α×β):=if (getA kvs k).isSome then kvs.map λkv=>if kv.1=k then (kv.1,v) else kv else kvs++[(k,v)]
end
section
variable {X:Cx}{K:W.Frag}
def anyD(d:PyData)(es:List PyData):Bool:=es.any λe=>PyData.eqv e d
def rInD(K:W.Frag)(neg:Bool):R2:=λx y H Q=>∃ d es,Rep K H x d/\(Rep K H y (.list es)\/Rep K H y (.tuple es))/\d.canLay0=true/\PyData.canLayAll0 es=true/\d.depth<=32/\Q (.bl (if neg then !anyD d es else anyD d es)) H
theorem Zi2(hK:X.K=K)(hu:X.A.units+64<cLine):OpR X (compareOp .NotIn) (rInD K true):=by
 subst hK
 intro pins s σ H x y v u Q I rx ry h
 obtain⟨d,es,h1,h2,h3,h4,h5,q⟩:=h
 obtain⟨as,k1⟩:=Rep.reads I h3 h1 rx
 rcases h2 with h2|h2
 ·obtain⟨bs,k2⟩:=Rep.reads I (by simpa [PyData.canLay0] using h4) h2 ry
  exact SeqAt.notIn_list_reads k2 k1 h4 h3 (by omega) ⟨.bl _,H,I,rfl,q⟩
 ·obtain⟨bs,k2⟩:=Rep.reads I (by simpa [PyData.canLay0] using h4) h2 ry
  exact SeqAt.notIn_tuple_reads k2 k1 h4 h3 (by omega) ⟨.bl _,H,I,rfl,q⟩
end
theorem Zhn{α:Type}[DecidableEq α]{f:α->PyData}{m:Nat}(F:Enc f m)(c:α):∀ xs:List α,anyD (f c) (xs.map f)=decide (c∈xs)
 | []=>by simp[anyD]
 | x::xs=>by
  have ih:=Zhn F c xs
  unfold anyD at ih ⊢
  rw[List.map_cons,List.any_cons,ih,F.dec]
  by_cases e:x=c
  ·subst e;simp
  ·have e':¬ c=x:=λz=>e z.symm
   simp[e,e']
theorem ZgJ{α:Type}{f:α->PyData}{m:Nat}(F:Enc f m):∀ xs:List α,PyData.canLayAll0 (xs.map f)=true
 | []=>by simp[PyData.canLayAll0]
 | x::xs=>by simp[PyData.canLayAll0,F.lay x,ZgJ F xs]
def rInS(neg:Bool):R2:=λx y H Q=>∃ i j,x=.str i/\y=.str j/\Q (.bl (if neg then !(!(Builtin.Str.occurrences j i 0 j.length 1).isEmpty) else !(Builtin.Str.occurrences j i 0 j.length 1).isEmpty)) H
def rInA(K:W.Frag)(neg:Bool):R2:=λx y H Q=>rInD K neg x y H Q\/rInDc neg x y H Q\/rInS neg x y H Q
theorem Zci{X:Cx}{K:W.Frag}(hK:X.K=K)(hu:X.A.units+64<cLine):OpR X (compareOp .NotIn) (rInA K true):=(Zi2 hK hu).or ((Zij hu).or ZfV)
end L2
end
section
namespace VL
open PySem PySem.Spec L2
inductive AV where
 | d (x:PyData)
 | own (xs:List AV)
 | tup (xs:List AV)
 | dic (kvs:List (PyData×PyData))
 | obj (φ:V->Hp->Prop)
inductive TV where
 | av (a:AV)
 | bor (x:PyData)
 | raw (v:V)
abbrev Sl:=List (Option AV)
abbrev Fp:=Addr->Nat
mutual
def AV.data:AV->PyData
 | .d x=>x
 | .own xs=>.list (AV.datas xs)
 | .tup xs=>.tuple (AV.datas xs)
 | .dic kvs=>.dict kvs
 | .obj _=>dJ
def AV.datas:List AV->List PyData
 | []=>[]
 | x::xs=>x.data::AV.datas xs
end
theorem AV.datas_map:∀ xs:List AV,AV.datas xs=xs.map AV.data
 | []=>rfl
 | x::xs=>by rw[AV.datas,AV.datas_map xs];rfl
def DicAt(K:W.Frag)(G:Hp)(o:HO)(kvs:List (PyData×PyData)):Prop :=
 (∃ (ks:List (Key×V)) (ds:List PyData),o=.dK ks/\Reps K G (ks.map Prod.snd) ds/\kvs=(ks.map λp=>keyD p.1).zip ds) \/
 (∃ (ks:List (List Key×V)) (ds:List PyData),o=.dT ks/\Reps K G (ks.map Prod.snd) ds/\kvs=(ks.map λp=>PyData.tuple (p.1.map keyD)).zip ds) \/
 ∃ (ks:List ((Key×List Key)×V)) (ds:List PyData),ks≠[]/\o=.dN ks/\Reps K G (ks.map Prod.snd) ds/\kvs=(ks.map λp=>PyData.tuple [keyD p.1.1,.tuple (p.1.2.map keyD)]).zip ds
theorem DicAt.mono{K:W.Frag}{G G':Hp}{o:HO}{kvs:List (PyData×PyData)}(h:DicAt K G o kvs)(m:Same G G'):DicAt K G' o kvs:=by
 rcases h with⟨ks,ds,e,r,z⟩|⟨ks,ds,e,r,z⟩|⟨ks,ds,n,e,r,z⟩
 ·exact .inl ⟨ks,ds,e,r.same m,z⟩
 ·exact .inr (.inl ⟨ks,ds,e,r.same m,z⟩)
 ·exact .inr (.inr ⟨ks,ds,n,e,r.same m,z⟩)
theorem DicAt.rep{K:W.Frag}{G:Hp}{o:HO}{kvs:List (PyData×PyData)}{a:Addr}(h:DicAt K G o kvs)(e:G a=some o):Rep K G (.ref a) (.dict kvs):=by
 rcases h with⟨ks,ds,rfl,r,z⟩|⟨ks,ds,rfl,r,z⟩|⟨ks,ds,n,rfl,r,z⟩
 ·exact .dK (.inl e) r z
 ·exact .dT (.inl e) r z
 ·exact .dN n (.inl e) r z
def Mu:HO->Prop
 | .lst _=>True
 | .dK _=>True
 | .dT _=>True
 | .dN _=>True
 | _=>False
theorem DicAt.mu{K:W.Frag}{G:Hp}{o:HO}{kvs:List (PyData×PyData)}(h:DicAt K G o kvs):Mu o:=by
 rcases h with⟨ks,ds,rfl,_⟩|⟨ks,ds,rfl,_⟩|⟨ks,ds,_,rfl,_⟩<;>trivial
mutual
inductive RA(K:W.Frag)(G H:Hp):V->AV->Fp->Prop
 | d {v:V} {x:PyData} {p:Fp}:Rep K G v x->(∀ b,p b=0)->RA K G H v (.d x) p
 | own {a:Addr} {vs:List V} {xs:List AV} {p q:Fp}:H a=some (.lst vs)->RAs K G H vs xs p->(∀ b,q b=(if b=a then 1 else 0)+p b)->RA K G H (.ref a) (.own xs) q
 | tup {a:Addr} {vs:List V} {xs:List AV} {p:Fp}:G a=some (.tup vs)->RAs K G H vs xs p->RA K G H (.ref a) (.tup xs) p
 | dic {a:Addr} {o:HO} {kvs:List (PyData×PyData)} {q:Fp}:H a=some o->DicAt K G o kvs->(∀ b,q b=if b=a then 1 else 0)->RA K G H (.ref a) (.dic kvs) q
 | obj {v:V} {φ:V->Hp->Prop} {p:Fp}:φ v G->(∀ G1 G2:Hp,Same G1 G2->φ v G1->φ v G2)->(∀ b,p b=0)->RA K G H v (.obj φ) p
inductive RAs(K:W.Frag)(G H:Hp):List V->List AV->Fp->Prop
 | nil {p:Fp}:(∀ b,p b=0)->RAs K G H [] [] p
 | cons {v:V} {x:AV} {vs:List V} {xs:List AV} {p q r:Fp}:RA K G H v x p->RAs K G H vs xs q->(∀ b,r b=p b+q b)->RAs K G H (v::vs) (x::xs) r
end
theorem RA.ind{K:W.Frag}{G H:Hp}{M:V->AV->Fp->Prop}{N:List V->List AV->Fp->Prop}(h1:∀ {v x p},Rep K G v x->(∀ b,p b=0)->M v (.d x) p)(h2:∀ {a vs xs p q},H a=some (.lst vs)->N vs xs p->(∀ b,q b=(if b=a then 1 else 0)+p b)->M (.ref a) (.own xs) q)
  (h3:∀ {a vs xs p},G a=some (.tup vs)->N vs xs p->M (.ref a) (.tup xs) p) (h4:∀ {a o kvs q},H a=some o->DicAt K G o kvs->(∀ b,q b=if b=a then 1 else 0)->M (.ref a) (.dic kvs) q) (h5:∀ {v φ p},φ v G->(∀ G1 G2:Hp,Same G1 G2->φ v G1->φ v G2)->(∀ b,p b=0)->M v (.obj φ) p)
  (n:∀ {p},(∀ b,p b=0)->N [] [] p) (c:∀ {v x vs xs p q r},M v x p->N vs xs q->(∀ b,r b=p b+q b)->N (v::vs) (x::xs) r):(∀ {v a p},RA K G H v a p->M v a p)/\∀ {vs xs p},RAs K G H vs xs p->N vs xs p :=
 ⟨λh=>RA.rec (motive_1:=λv a p _=>M v a p) (motive_2:=λv a p _=>N v a p) h1 (λh _ e i=>h2 h i e) (λh _ i=>h3 h i) h4 h5 n (λ_ _ e i j=>c i j e) h,λh=>RAs.rec (motive_1:=λv a p _=>M v a p) (motive_2:=λv a p _=>N v a p) h1 (λh _ e i=>h2 h i e) (λh _ i=>h3 h i) h4 h5 n (λ_ _ e i j=>c i j e) h⟩
inductive RSl(K:W.Frag)(G H:Hp):St->Sl->Fp->Prop
 | nil {p:Fp}:(∀ b,p b=0)->RSl K G H [] [] p
 | no {o:Option V} {σ:St} {ρ:Sl} {p:Fp}:RSl K G H σ ρ p->RSl K G H (o::σ) (none::ρ) p
 | so {v:V} {a:AV} {σ:St} {ρ:Sl} {p q r:Fp}:RA K G H v a p->RSl K G H σ ρ q->(∀ b,r b=p b+q b)->RSl K G H (some v::σ) (some a::ρ) r
inductive RT(K:W.Frag)(G H:Hp):V->TV->Fp->Prop
 | av {v:V} {a:AV} {p:Fp}:RA K G H v a p->RT K G H v (.av a) p
 | bor {v:V} {x:PyData} {p:Fp}:Rep K H v x->(∀ b,p b=0)->RT K G H v (.bor x) p
 | raw {v:V} {p:Fp}:(∀ b,p b=0)->RT K G H v (.raw v) p
inductive RTs(K:W.Frag)(G H:Hp):List V->List TV->Fp->Prop
 | nil {p:Fp}:(∀ b,p b=0)->RTs K G H [] [] p
 | cons {v:V} {x:TV} {vs:List V} {xs:List TV} {p q r:Fp}:RT K G H v x p->RTs K G H vs xs q->(∀ b,r b=p b+q b)->RTs K G H (v::vs) (x::xs) r
def hid(H:Hp)(p q:Fp):Hp:=λb=>if p b+q b=0 then H b else none
structure SR(K:W.Frag)(H0:Hp)(σ:St)(ρ:Sl)(ts:List V)(as:List TV)(H:Hp):Prop where
 ex:∃ p q,RSl K (hid H p q) H σ ρ p/\RTs K (hid H p q) H ts as q/\(∀ b,p b+q b<=1)/\∀ b,0<p b+q b->H0 b=none
 same:Same H0 H
section
variable {K:W.Frag}{G G' H H' H0:Hp}{σ:St}{ρ:Sl}{ts:List V}{as:List TV}
theorem RA.monoB(hG:Same G G'):(∀ {v:V} {a:AV} {p:Fp},RA K G H v a p->(∀ b o,0<p b->H b=some o->H' b=some o)->RA K G' H' v a p)/\∀ {vs:List V} {xs:List AV} {p:Fp},RAs K G H vs xs p->(∀ b o,0<p b->H b=some o->H' b=some o)->RAs K G' H' vs xs p :=
 RA.ind (M:=λv a p=>(∀ b o,0<p b->H b=some o->H' b=some o)->RA K G' H' v a p) (N:=λvs xs p=>(∀ b o,0<p b->H b=some o->H' b=some o)->RAs K G' H' vs xs p) (λr e _=>.d (r.same hG) e) (λ{a _ _ _ _} h i e hH=>.own (hH a _ (by have:=e a;simp at this;omega) h) (i λb o z=>hH b o (by have:=e b;omega)) e)
  (λh i hH=>.tup (hG _ _ h) (i hH)) (λ{a _ _ _} h d e hH=>.dic (hH a _ (by have:=e a;simp at this;omega) h) (d.mono hG) e) (λh m e _=>.obj (m _ _ hG h) m e) (λe _=>.nil e) λi j e hH=>.cons (i λb o z=>hH b o (by have:=e b;omega)) (j λb o z=>hH b o (by have:=e b;omega)) e
theorem RA.mono(hG:Same G G'){v:V}{a:AV}{p:Fp}(hH:∀ b o,0<p b->H b=some o->H' b=some o)(h:RA K G H v a p):RA K G' H' v a p:=(RA.monoB hG).1 h hH
theorem RAs.mono(hG:Same G G'){vs:List V}{xs:List AV}{p:Fp}(hH:∀ b o,0<p b->H b=some o->H' b=some o)(h:RAs K G H vs xs p):RAs K G' H' vs xs p:=(RA.monoB hG).2 h hH
theorem RA.lstB:(∀ {v:V} {a:AV} {p:Fp},RA K G H v a p->∀ b,0<p b->∃ o,H b=some o/\Mu o)/\∀ {vs:List V} {xs:List AV} {p:Fp},RAs K G H vs xs p->∀ b,0<p b->∃ o,H b=some o/\Mu o:=by
 refine RA.ind (M:=λv a p=>∀ b,0<p b->∃ o,H b=some o/\Mu o) (N:=λvs xs p=>∀ b,0<p b->∃ o,H b=some o/\Mu o) (λr e b z=>absurd (e b) (Nat.ne_of_gt z)) (λ{a vs xs p q} h i e b z=>?_) (λh i b z=>i b z) (λ{a o kvs q} h d e b z=>?_) (λ_ _ e b z=>absurd (e b) (Nat.ne_of_gt z)) (λe b z=>absurd (e b) (Nat.ne_of_gt z)) λ{v x vs xs p q r} i j e b z=>?_
 ·by_cases hb:b=a
  ·subst hb;exact⟨_,h,trivial⟩
  ·exact i b (by have:=e b;simp[hb] at this;omega)
 ·by_cases hb:b=a
  ·subst hb;exact⟨_,h,d.mu⟩
  ·have:=e b;simp[hb] at this;omega
 ·have:=e b
  rcases Nat.eq_zero_or_pos (p b) with h|h
  ·exact j b (by omega)
  ·exact i b h
theorem RA.lst{v:V}{a:AV}{p:Fp}(h:RA K G H v a p):∀ b,0<p b->∃ o,H b=some o/\Mu o:=RA.lstB.1 h
theorem RAs.lst{vs:List V}{xs:List AV}{p:Fp}(h:RAs K G H vs xs p):∀ b,0<p b->∃ o,H b=some o/\Mu o:=RA.lstB.2 h
theorem RSl.mono(hG:Same G G'){p:Fp}(r:RSl K G H σ ρ p):(∀ b o,0<p b->H b=some o->H' b=some o)->RSl K G' H' σ ρ p:=by
 induction r with
 | nil e=>exact λ_=>.nil e
 | no _ ih=>exact λh=>.no (ih h)
 | so r _ e ih=>exact λh=>.so (r.mono hG (λb o z=>h b o (by have:=e b;omega))) (ih λb o z=>h b o (by have:=e b;omega)) e
theorem RSl.lst{p:Fp}(r:RSl K G H σ ρ p):∀ b,0<p b->∃ o,H b=some o/\Mu o:=by
 induction r with
 | nil e=>intro b z;have:=e b;omega
 | no _ ih=>exact ih
 | @so v a σ ρ p1 q1 r1 r _ e ih =>
  intro b z
  have:=e b
  rcases Nat.eq_zero_or_pos (p1 b) with h|h
  ·exact ih b (by omega)
  ·exact r.lst b h
theorem RT.mono{v:V}{a:TV}{p:Fp}(hG:Same G G')(hH:Same H H')(r:RT K G H v a p):RT K G' H' v a p:=by
 cases r with
 | av r=>exact .av (r.mono hG λb o _=>hH b o)
 | bor r e=>exact .bor (r.same hH) e
 | raw e=>exact .raw e
theorem RT.lst{v:V}{a:TV}{p:Fp}(r:RT K G H v a p):∀ b,0<p b->∃ o,H b=some o/\Mu o:=by
 cases r with
 | av r=>exact r.lst
 | bor r e=>intro b z;have:=e b;omega
 | raw e=>intro b z;have:=e b;omega
theorem RTs.mono{p:Fp}(hG:Same G G')(hH:Same H H')(r:RTs K G H ts as p):RTs K G' H' ts as p:=by
 induction r with
 | nil e=>exact .nil e
 | cons r _ e ih=>exact .cons (r.mono hG hH) ih e
theorem RTs.lst{p:Fp}(r:RTs K G H ts as p):∀ b,0<p b->∃ o,H b=some o/\Mu o:=by
 induction r with
 | nil e=>intro b z;have:=e b;omega
 | @cons v x vs xs p1 q1 r1 r _ e ih =>
  intro b z
  have:=e b
  rcases Nat.eq_zero_or_pos (p1 b) with h|h
  ·exact ih b (by omega)
  ·exact r.lst b h
def Stb(as:List TV):Prop:=∀ a∈as,∃ x,a=.av (.d x)
theorem Stb.nil:Stb []:=λ_ h=>nomatch h
theorem Stb.cons{x:PyData}(h:Stb as):Stb (.av (.d x)::as):=λb hb=>by
 rcases List.mem_cons.mp hb with e|e
 ·exact⟨x,e⟩
 ·exact h b e
theorem RTs.monoS{p:Fp}(hG:Same G G')(r:RTs K G H ts as p):Stb as->(∀ b o,0<p b->H b=some o->H' b=some o)->RTs K G' H' ts as p:=by
 induction r with
 | nil e=>exact λ_ _=>.nil e
 | cons r _ e ih =>
  intro hS hH
  refine .cons ?_ (ih (λa ha=>hS a (.tail _ ha)) λb o z=>hH b o (by have:=e b;omega)) e
  cases r with
  | av r=>exact .av (r.mono hG λb o z=>hH b o (by have:=e b;omega))
  | bor _ _=>obtain⟨x,e⟩:=hS _ (.head _);cases e
  | raw e=>exact .raw e
theorem ZcC{p q:Fp}(h:Same H H'):Same (hid H p q) (hid H' p q):=λb o e=>by
 unfold hid at e ⊢
 split at e
 ·rename_i z;rw[if_pos z];exact h b o e
 ·cases e
theorem Zbg{p q:Fp}:Same (hid H p q) H:=λb o e=>by
 unfold hid at e
 split at e
 ·exact e
 ·cases e
theorem hid_more{p q p' q':Fp}(h:∀ b,p b+q b=0->p' b+q' b=0):Same (hid H p q) (hid H p' q'):=λb o e=>by
 unfold hid at e ⊢
 split at e
 ·rename_i z;rw[if_pos (h b z)];exact e
 ·cases e
theorem ZnB{p q p' q':Fp}(h:∀ b,p b+q b=p' b+q' b):hid H p q=hid H p' q':=by
 funext b;unfold hid;rw[h b]
theorem SR.ext(h:SR K H0 σ ρ ts as H)(e:Same H H'):SR K H0 σ ρ ts as H':=by
 obtain⟨⟨p,q,h1,h2,h3,h4⟩,s⟩:=h
 exact⟨⟨p,q,h1.mono (ZcC e) (λb o _=>e b o),h2.mono (ZcC e) e,h3,h4⟩,s.trans e⟩
theorem Zi3{p q:Fp}{a:Addr}{xs:List V}(hl:∀ b,0<p b+q b->∃ o,H b=some o/\Mu o)(h:H a=some (.tup xs)):VL.hid H p q a=some (.tup xs):=by
 unfold VL.hid
 rw[if_pos]
 ·exact h
 ·rcases Nat.eq_zero_or_pos (p a+q a) with z|z
  ·exact z
  ·obtain⟨vs,e,mu⟩:=hl a z;rw[h] at e;cases e;exact mu.elim
theorem Rep.hidB{p q:Fp}(hl:∀ b,0<p b+q b->∃ o,H b=some o/\Mu o):(∀ {v:V} {x:PyData},Rep K H v x->noLst x=true->Rep K (VL.hid H p q) v x)/\∀ {vs:List V} {xs:List PyData},Reps K H vs xs->noLsts xs=true->Reps K (VL.hid H p q) vs xs :=
 Rep.indF (M:=λv x=>noLst x=true->Rep K (VL.hid H p q) v x) (N:=λvs xs=>noLsts xs=true->Reps K (VL.hid H p q) vs xs) (λ_=>.non) (λb _=>.bl b) (λi _=>.int i) (λx _=>.str x) (λ_ _ hn=>by simp[noLst] at hn) (λh i hn=>.tup (Zi3 hl h) (i (by simpa [noLst] using hn))) (λ_ _ hn=>by simp[noLst] at hn) (λ_=>.nil) λi j hn=>by
  simp only[noLsts,Bool.and_eq_true] at hn
  exact .cons (i hn.1) (j hn.2)
theorem Rep.hid{p q:Fp}(hl:∀ b,0<p b+q b->∃ o,H b=some o/\Mu o){v:V}{x:PyData}(hn:noLst x=true)(h:Rep K H v x):Rep K (VL.hid H p q) v x:=(Rep.hidB hl).1 h hn
theorem Reps.hid{p q:Fp}(hl:∀ b,0<p b+q b->∃ o,H b=some o/\Mu o){vs:List V}{xs:List PyData}(hn:noLsts xs=true)(h:Reps K H vs xs):Reps K (VL.hid H p q) vs xs:=(Rep.hidB hl).2 h hn
theorem RA.frzB(hG:Same G G'):(∀ {v:V} {a:AV} {p:Fp},RA K G H v a p->(∀ b o,0<p b->H b=some o->G' b=some o)->Rep K G' v a.data)/\∀ {vs:List V} {xs:List AV} {p:Fp},RAs K G H vs xs p->(∀ b o,0<p b->H b=some o->G' b=some o)->Reps K G' vs (AV.datas xs) :=
 RA.ind (M:=λv a p=>(∀ b o,0<p b->H b=some o->G' b=some o)->Rep K G' v a.data) (N:=λvs xs p=>(∀ b o,0<p b->H b=some o->G' b=some o)->Reps K G' vs (AV.datas xs)) (λr _ _=>r.same hG) (λ{a _ _ _ _} e i z h=>.lst (SqL.of (h a _ (by have:=z a;simp at this;omega) e)) (i λb o y=>h b o (by have:=z b;omega)))
  (λe i h=>.tup (hG _ _ e) (i h)) (λ{a _ _ _} e d z h=>(d.mono hG).rep (h a _ (by have:=z a;simp at this;omega) e)) (λ_ _ _ _=>.junk) (λ_ _=>.nil) λi j z h=>.cons (i λb o y=>h b o (by have:=z b;omega)) (j λb o y=>h b o (by have:=z b;omega))
theorem RA.frz(hG:Same G G'){v:V}{a:AV}{p:Fp}(hH:∀ b o,0<p b->H b=some o->G' b=some o)(h:RA K G H v a p):Rep K G' v a.data:=(RA.frzB hG).1 h hH
theorem RAs.frz(hG:Same G G'){vs:List V}{xs:List AV}{p:Fp}(hH:∀ b o,0<p b->H b=some o->G' b=some o)(h:RAs K G H vs xs p):Reps K G' vs (AV.datas xs):=(RA.frzB hG).2 h hH
theorem RA.rep(hG:Same G H){v:V}{a:AV}{p:Fp}(h:RA K G H v a p):Rep K H v a.data:=h.frz hG λ_ _ _ z=>z
theorem RAs.rep(hG:Same G H){vs:List V}{xs:List AV}{p:Fp}(h:RAs K G H vs xs p):Reps K H vs (AV.datas xs):=h.frz hG λ_ _ _ z=>z
def TV.data:TV->PyData
 | .av a=>a.data
 | .bor x=>x
 | .raw _=>.none
theorem RT.rep{v:V}{a:TV}{p:Fp}(hG:Same G H)(hr:∀ v,a≠.raw v)(r:RT K G H v a p):Rep K H v a.data:=by
 cases r with
 | av r=>exact r.rep hG
 | bor r _=>exact r
 | raw _=>exact absurd rfl (hr _)
end
end VL
end
section
namespace VL
open PySem PySem.Spec L2
structure Exc where
 cls:Addr
 fs:List (Str×PyData):=[]
def XRep(K:W.Frag)(H:Hp)(e:Exc)(c:Value)(d:Option Addr):Prop :=
 c=.ref e.cls/\((e.fs=[]/\d=none)\/∃ a vs,d=some a/\H a=some (hXD a vs)/\vs.map Prod.fst=e.fs.map Prod.fst/\Reps K H (vs.map Prod.snd) (e.fs.map Prod.snd))
class Tabs where
 ts:List (Addr×(Nat->Nat->Str))
variable [Tabs]
def TabsIn(H:Hp):Prop:=∀ p∈Tabs.ts,H p.1=some (.tbq p.2)
theorem TabsIn.same{H H':Hp}(t:TabsIn H)(s:Same H H'):TabsIn H':=λp hp=>s _ _ (t p hp)
structure XOk(K:W.Frag)(E:FK)(X:Exc->Sl->Prop)(H0:Hp):Prop where
 x:∀ e ρ,X e ρ->∀ c d σ H',SR K H0 σ ρ [] [] H'->XRep K H' e c d->E c d σ H'
 t:TabsIn H0
def NE:Exc->Sl->Prop:=λ_ _=>False
theorem XOk.ne{K:W.Frag}{E:FK}{H0:Hp}(t:TabsIn H0):XOk K E NE H0:=⟨λ_ _ z=>z.elim,t⟩
structure VEnds where
 nx:Sl->Prop
 rt:TV->Prop
 bk:Sl->Prop:=λ_=>False
 ct:Sl->Prop:=λ_=>False
structure Fit(K:W.Frag)(H0:Hp)(ts:List V)(as:List TV)(DV:VEnds)(D:Ends):Prop where
 nx:∀ ρ,DV.nx ρ->∀ σ H,SR K H0 σ ρ ts as H->D.nx σ H
 bk:∀ ρ,DV.bk ρ->∀ σ H,SR K H0 σ ρ ts as H->D.bk σ H
 ct:∀ ρ,DV.ct ρ->∀ σ H,SR K H0 σ ρ ts as H->D.ct σ H
 rt:∀ a,DV.rt a->∀ v σ ρ H,SR K H0 σ ρ (v::ts) (a::as) H->D.rt v H
def TV.sto:TV->Option AV
 | .av a=>some a
 | .bor x=>if noLst x=true then some (.d x) else none
 | .raw _=>none
section
variable (K:W.Frag)(E:FK)(X:Exc->Sl->Prop)
def Ev(t:TE)(ρ:Sl)(Q:TV->Prop):Prop :=
 ∀ (H0:Hp) (σ:St) (ts:List V) (as:List TV) (H:Hp) (QV:VK),SR K H0 σ ρ ts as H->XOk K E X H0->(∀ a,Q a->∀ v H',SR K H0 σ ρ (v::ts) (a::as) H'->QV v H')->t σ H QV
def Tv(t:TT)(ρ:Sl)(Q:Bool->Prop):Prop :=
 ∀ (H0:Hp) (σ:St) (ts:List V) (as:List TV) (H:Hp) (QV:Bool->Hp->Prop),SR K H0 σ ρ ts as H->XOk K E X H0->(∀ b,Q b->∀ H',SR K H0 σ ρ ts as H'->QV b H')->t σ H QV
def Ea(t:TA)(ρ:Sl)(Q:List TV->Prop):Prop :=
 ∀ (H0:Hp) (σ:St) (ts:List V) (as:List TV) (H:Hp) (QV:List V->Hp->Prop),SR K H0 σ ρ ts as H->XOk K E X H0->(∀ bs,Q bs->∀ vs H',SR K H0 σ ρ (vs++ts) (bs++as) H'->vs.length=bs.length->QV vs H')->t σ H QV
def Op(r:R2)(a b:TV)(Q:TV->Prop):Prop :=
 ∀ (H0:Hp) (σ:St) (ρ:Sl) (ts:List V) (as:List TV) (H:Hp) (x y:V) (QV:VK),SR K H0 σ ρ (y::x::ts) (b::a::as) H->XOk K E X H0->(∀ c,Q c->∀ v H',SR K H0 σ ρ (v::ts) (c::as) H'->QV v H')->r x y H QV
def Bi(r:List V->Hp->VK->Prop)(bs:List TV)(Q:TV->Prop):Prop :=
 ∀ (H0:Hp) (σ:St) (ρ:Sl) (ts:List V) (as:List TV) (H:Hp) (vs:List V) (QV:VK),SR K H0 σ ρ (vs++ts) (bs++as) H->vs.length=bs.length->XOk K E X H0->(∀ c,Q c->∀ v H',SR K H0 σ ρ (v::ts) (c::as) H'->QV v H')->r vs H QV
def Sv(t:TS)(ρ:Sl)(DV:VEnds):Prop :=
 ∀ (H0:Hp) (σ:St) (ts:List V) (as:List TV) (H:Hp) (D:Ends),Stb as->SR K H0 σ ρ ts as H->XOk K E X H0->Fit K H0 ts as DV D->t D σ H
end
section
variable {K:W.Frag}{G G' H H' H0:Hp}{σ:St}{ρ:Sl}{ts:List V}{as:List TV}{v x y:V}{a b:TV}
theorem SR.top(h:SR K H0 σ ρ (v::ts) (a::as) H)(hr:∀ v,a≠.raw v):Rep K H v a.data:=by
 obtain⟨⟨p,q,_,h2,_⟩,_⟩:=h
 cases h2 with
 | cons r _ _=>exact r.rep Zbg hr
theorem SR.top_d{x:PyData}(h:SR K H0 σ ρ (v::ts) (.av (.d x)::as) H):Rep K H v x:=h.top (a:=.av (.d x)) (λ_ z=>nomatch z)
theorem SR.pop(h:SR K H0 σ ρ (v::ts) (a::as) H):SR K H0 σ ρ ts as H:=by
 obtain⟨⟨p,q,h1,h2,h3,h4⟩,s⟩:=h
 cases h2 with
 | @cons _ _ _ _ p1 q1 _ r rs e =>
  refine⟨⟨p,q1,h1.mono (hid_more λb z=>by have:=e b;omega) (λ_ _ _ z=>z),rs.mono (hid_more λb z=>by have:=e b;omega) (λ_ _ z=>z),λb=>by have:=e b;have:=h3 b;omega,λb z=>h4 b (by have:=e b;omega)⟩,s⟩
theorem SR.push(h:SR K H0 σ ρ ts as H){x:PyData}(r:∀ G,Rep K G v x):SR K H0 σ ρ (v::ts) (.av (.d x)::as) H:=by
 obtain⟨⟨p,q,h1,h2,h3,h4⟩,s⟩:=h
 exact⟨⟨p,q,h1,.cons (.av (.d (p:=λ_=>0) (r _) λ_=>rfl)) h2 (λb=>by simp),h3,h4⟩,s⟩
theorem SR.pushB(h:SR K H0 σ ρ ts as H){x:PyData}(r:Rep K H v x):SR K H0 σ ρ (v::ts) (.bor x::as) H:=by
 obtain⟨⟨p,q,h1,h2,h3,h4⟩,s⟩:=h
 exact⟨⟨p,q,h1,.cons (.bor (p:=λ_=>0) r λ_=>rfl) h2 (λb=>by simp),h3,h4⟩,s⟩
theorem SR.lsts{p q:Fp}(h1:RSl K G H σ ρ p)(h2:RTs K G H ts as q):∀ b,0<p b+q b->∃ o,H b=some o/\Mu o:=λb z=>by
 rcases Nat.eq_zero_or_pos (p b) with e|e
 ·exact h2.lst b (by omega)
 ·exact h1.lst b e
theorem SR.pushF(h:SR K H0 σ ρ ts as H){x:PyData}(hx:noLst x=true)(r:Rep K H v x):SR K H0 σ ρ (v::ts) (.av (.d x)::as) H:=by
 obtain⟨⟨p,q,h1,h2,h3,h4⟩,s⟩:=h
 exact⟨⟨p,q,h1,.cons (.av (.d (p:=λ_=>0) (Rep.hid (SR.lsts h1 h2) hx r) λ_=>rfl)) h2 (λb=>by simp),h3,h4⟩,s⟩
theorem SR.int(h:SR K H0 σ ρ ts as H)(i:Int):SR K H0 σ ρ (.int i::ts) (.av (.d (.int i))::as) H:=h.push λ_=>.int i
theorem SR.bl(h:SR K H0 σ ρ ts as H)(i:Bool):SR K H0 σ ρ (.bl i::ts) (.av (.d (.bool i))::as) H:=h.push λ_=>.bl i
theorem SR.sto{a':AV}(h:SR K H0 σ ρ (v::ts) (a::as) H)(e:a.sto=some a'):SR K H0 σ ρ (v::ts) (.av a'::as) H:=by
 cases a with
 | av a=>cases e;exact h
 | raw u=>cases e
 | bor x =>
  unfold TV.sto at e
  by_cases z:noLst x=true
  ·simp only[z,if_true,Option.some.injEq] at e
   subst e
   exact h.pop.pushF z (h.top (a:=.bor x) λ_ z=>nomatch z)
  ·simp[z] at e
theorem SR.frzT{a:AV}(h:SR K H0 σ ρ (v::ts) (.av a::as) H):SR K H0 σ ρ (v::ts) (.av (.d a.data)::as) H:=by
 obtain⟨⟨p,q,h1,h2,h3,h4⟩,s⟩:=h
 cases h2 with
 | @cons _ _ _ _ p1 q1 _ r rs e =>
  cases r with
  | av r =>
   have m:Same (hid H p q) (hid H p q1):=hid_more λb z=>by have:=e b;omega
   refine⟨⟨p,q1,h1.mono m (λ_ _ _ z=>z),.cons (.av (.d (p:=λ_=>0) (r.frz m λb o y z=>?_) λ_=>rfl)) (rs.mono m λ_ _ z=>z) (λb=>by simp),λb=>by have:=e b;have:=h3 b;omega,λb z=>h4 b (by have:=e b;omega)⟩,s⟩
   unfold hid
   rw[if_pos (by have:=e b;have:=h3 b;omega)]
   exact z
theorem RSl.frz{i:Nat}{a:AV}{p:Fp}{ρ:Sl}{σ:St}(r:RSl K G H σ ρ p)(hi:ρ[i]?=some (some a))(hp:∀ b o,0<p b->H b=some o->True) :
  ∃ (p1 p2:Fp) (v:V),(∀ b,p b=p1 b+p2 b)/\σ[i]?=some (some v)/\RA K G H v a p1/\∀ (G' H':Hp) (v':V) (a':AV) (p1' r':Fp),Same G G'->(∀ b o,0<p2 b->H b=some o->H' b=some o)->RA K G' H' v' a' p1'->(∀ b,r' b=p1' b+p2 b)->RSl K G' H' (σ.set i (some v')) (ρ.set i (some a')) r':=by
 induction r generalizing i with
 | nil _=>simp at hi
 | @no o σ ρ p r ih =>
  cases i with
  | zero=>simp at hi
  | succ i =>
   obtain⟨p1,p2,v,e1,e2,e3,e4⟩:=ih (by simpa using hi) (λ_ _ _ _=>trivial)
   exact⟨p1,p2,v,e1,by simpa using e2,e3,λG' H' v' a' p1' r' m n ra z=>.no (e4 G' H' v' a' p1' r' m n ra z)⟩
 | @so v a0 σ ρ pa pb pr ra r e ih =>
  cases i with
  | zero =>
   have:a0=a:=by simpa using hi
   subst this
   exact⟨pa,pb,v,e,rfl,ra,λG' H' v' a' p1' r' m n ra' z=>.so ra' (r.mono m n) z⟩
  | succ i =>
   obtain⟨p1,p2,w,e1,e2,e3,e4⟩:=ih (by simpa using hi) (λ_ _ _ _=>trivial)
   refine⟨p1,λb=>pa b+p2 b,w,λb=>by have:=e b;have:=e1 b;dsimp only;omega,by simpa using e2,e3,λG' H' v' a' p1' r' m n ra' z=>?_⟩
   exact .so (ra.mono m λb o y=>n b o (by dsimp only;omega)) (e4 G' H' v' a' p1' (λb=>p1' b+p2 b) m (λb o y=>n b o (by dsimp only;omega)) ra' λ_=>rfl) (λb=>by have:=z b;dsimp only at this ⊢;omega)
theorem Zdb{α:Type}:∀ {l:List α} {i:Nat} {x:α},l[i]?=some x->l.set i x=l
 | [],_,_,h=>by simp at h
 | y::l,0,x,h=>by simp at h;simp[h]
 | y::l,i+1,x,h=>by simp at h;simp[Zdb h]
theorem RSl.len{p:Fp}(r:RSl K G H σ ρ p):σ.length=ρ.length:=by
 induction r with
 | nil _=>rfl
 | no _ ih=>simp[ih]
 | so _ _ _ ih=>simp[ih]
theorem RSl.set{i:Nat}{w:V}{a:AV}{p p1:Fp}(r:RSl K G H σ ρ p)(hi:i<ρ.length)(ra:RA K G H w a p1):∃ p2:Fp,(∀ b,p2 b<=p b)/\RSl K G H (σ.set i (some w)) (ρ.set i (some a)) (λb=>p1 b+p2 b):=by
 induction r generalizing i with
 | nil _=>simp at hi
 | @no o σ ρ p r ih =>
  cases i with
  | zero=>exact⟨p,λ_=>Nat.le_refl _,.so ra r λ_=>rfl⟩
  | succ i =>
   obtain⟨p2,e1,e2⟩:=ih (by simpa using hi)
   exact⟨p2,e1,.no e2⟩
 | @so v a0 σ ρ pa pb pr ra0 r e ih =>
  cases i with
  | zero=>exact⟨pb,λb=>by have:=e b;omega,.so ra r λ_=>rfl⟩
  | succ i =>
   obtain⟨p2,e1,e2⟩:=ih (by simpa using hi)
   exact⟨λb=>pa b+p2 b,λb=>by have:=e b;have:=e1 b;dsimp only;omega,.so ra0 e2 λb=>by dsimp only;omega⟩
theorem SR.of_le{p p' q q':Fp}(s:Same H0 H)(h3:∀ b,p b+q b<=1)(h4:∀ b,0<p b+q b->H0 b=none)(hp:∀ b,p' b+q' b<=p b+q b)(h1:RSl K (hid H p q) H σ ρ p')(h2:RTs K (hid H p q) H ts as q'):SR K H0 σ ρ ts as H :=
 ⟨⟨p',q',h1.mono (hid_more λb z=>by have:=hp b;omega) (λ_ _ _ z=>z),h2.mono (hid_more λb z=>by have:=hp b;omega) (λ_ _ z=>z),λb=>by have:=hp b;have:=h3 b;omega,λb z=>h4 b (by have:=hp b;omega)⟩,s⟩
theorem SR.store{i:Nat}{a:AV}(h:SR K H0 σ ρ (v::ts) (.av a::as) H)(hi:i<ρ.length):SR K H0 (σ.set i (some v)) (ρ.set i (some a)) ts as H:=by
 obtain⟨⟨p,q,h1,h2,h3,h4⟩,s⟩:=h
 cases h2 with
 | @cons _ _ _ _ p1 q1 _ r rs e =>
  cases r with
  | av r =>
   obtain⟨p2,e1,e2⟩:=h1.set hi r
   refine SR.of_le (p:=p) (q:=q) (p':=λb=>p1 b+p2 b) (q':=q1) s h3 h4 (λb=>?_) e2 rs
   have:=e b;have:=e1 b;omega
theorem RSl.drop{i:Nat}{o:Option V}{p:Fp}(r:RSl K G H σ ρ p):∃ p2:Fp,(∀ b,p2 b<=p b)/\RSl K G H (σ.set i o) (ρ.set i none) p2:=by
 induction r generalizing i with
 | nil e=>exact⟨_,λ_=>Nat.le_refl _,by simpa using .nil e⟩
 | @no o σ ρ p r ih =>
  cases i with
  | zero=>exact⟨p,λ_=>Nat.le_refl _,.no r⟩
  | succ i=>obtain⟨p2,e1,e2⟩:=ih (i:=i);exact⟨p2,e1,.no e2⟩
 | @so v a0 σ ρ pa pb pr ra0 r e ih =>
  cases i with
  | zero=>exact⟨pb,λb=>by have:=e b;omega,.no r⟩
  | succ i =>
   obtain⟨p2,e1,e2⟩:=ih (i:=i)
   exact⟨λb=>pa b+p2 b,λb=>by have:=e b;have:=e1 b;dsimp only;omega,.so ra0 e2 λb=>rfl⟩
theorem SR.drop{i:Nat}(h:SR K H0 σ ρ ts as H):SR K H0 σ (ρ.set i none) ts as H:=by
 obtain⟨⟨p,q,h1,h2,h3,h4⟩,s⟩:=h
 by_cases hi:i<σ.length
 ·obtain⟨p2,e1,e2⟩:=h1.drop (i:=i) (o:=σ[i])
  rw[Zdb (List.getElem?_eq_getElem hi)] at e2
  exact SR.of_le (p:=p) (q:=q) (p':=p2) (q':=q) s h3 h4 (λb=>by have:=e1 b;omega) e2 h2
 ·have:ρ.set i none=ρ:=List.set_eq_of_length_le (by rw[<- h1.len];omega)
  rw[this]
  exact⟨⟨p,q,h1,h2,h3,h4⟩,s⟩
theorem RTs.swap{u w:V}{p:Fp}(r:RTs K G H (u::w::ts) (a::b::as) p):RTs K G H (w::u::ts) (b::a::as) p:=by
 cases r with
 | cons r1 rs e1=>cases rs with
  | cons r2 rs e2=>exact .cons r2 (.cons r1 rs λ_=>rfl) (λc=>by have:=e1 c;have:=e2 c;omega)
theorem RTs.rot{u:V}:∀ {vs:List V} {bs:List TV} {p:Fp},vs.length=bs.length->RTs K G H (vs++u::ts) (bs++a::as) p->RTs K G H (u::(vs++ts)) (a::(bs++as)) p
 | [],[],_,_,r=>r
 | w::vs,b::bs,p,e,r=>by
  cases r with
  | cons r1 rs e1=>exact RTs.swap (.cons r1 (RTs.rot (by simpa using e) rs) e1)
theorem SR.rot{u:V}{vs:List V}{bs:List TV}(e:vs.length=bs.length)(h:SR K H0 σ ρ (vs++u::ts) (bs++a::as) H):SR K H0 σ ρ (u::(vs++ts)) (a::(bs++as)) H :=
 let ⟨⟨p,q,h1,h2,h3,h4⟩,s⟩:=h
 ⟨⟨p,q,h1,h2.rot e,h3,h4⟩,s⟩
theorem SR.swap{u w:V}(h:SR K H0 σ ρ (u::w::ts) (a::b::as) H):SR K H0 σ ρ (w::u::ts) (b::a::as) H :=
 let ⟨⟨p,q,h1,h2,h3,h4⟩,s⟩:=h
 ⟨⟨p,q,h1,h2.swap,h3,h4⟩,s⟩
theorem RTs.back{u:V}:∀ {vs:List V} {bs:List TV} {p:Fp},vs.length=bs.length->RTs K G H (u::(vs++ts)) (a::(bs++as)) p->RTs K G H (vs++u::ts) (bs++a::as) p
 | [],[],_,_,r=>r
 | w::vs,b::bs,p,e,r=>by
  have r':=RTs.swap r
  cases r' with
  | cons r1 rs e1=>exact .cons r1 (RTs.back (by simpa using e) rs) e1
theorem SR.back{u:V}{vs:List V}{bs:List TV}(e:vs.length=bs.length)(h:SR K H0 σ ρ (u::(vs++ts)) (a::(bs++as)) H):SR K H0 σ ρ (vs++u::ts) (bs++a::as) H :=
 let ⟨⟨p,q,h1,h2,h3,h4⟩,s⟩:=h
 ⟨⟨p,q,h1,h2.back e,h3,h4⟩,s⟩
inductive Stos:List TV->List AV->Prop
 | nil:Stos [] []
 | cons {a:TV} {x:AV} {as:List TV} {xs:List AV}:a.sto=some x->Stos as xs->Stos (a::as) (x::xs)
theorem SR.stos:∀ {vs:List V} {bs:List TV} {xs:List AV},Stos bs xs->vs.length=bs.length->∀ {us:List V} {cs:List TV},us.length=cs.length->SR K H0 σ ρ (us++(vs++ts)) (cs++(bs++as)) H->SR K H0 σ ρ (us++(vs++ts)) (cs++(xs.map TV.av++as)) H
 | [],_,_,.nil,_,_,_,_,h=>h
 | [],_,_,.cons _ _,e,_,_,_,_=>by simp at e
 | w::vs,_,_,.nil,e,_,_,_,_=>by simp at e
 | w::vs,b::bs,x::xs,.cons e1 es,e,us,cs,e2,h=>by
  have h1:SR K H0 σ ρ (us++w::(vs++ts)) (cs++b::(bs++as)) H:=h
  have h2:=(h1.rot e2).sto e1
  have h3:SR K H0 σ ρ ((w::us)++(vs++ts)) ((.av x::cs)++(bs++as)) H:=h2
  have h4:=SR.stos (us:=w::us) (cs:=.av x::cs) es (by simpa using e) (by simp[e2]) h3
  exact SR.back e2 h4
theorem RTs.avs{xs:List AV}:∀ {vs:List V} {bs:List AV} {p:Fp},vs.length=bs.length->RTs K G H (vs++ts) (bs.map TV.av++as) p->∃ p1 p2:Fp,(∀ b,p b=p1 b+p2 b)/\RAs K G H vs bs p1/\RTs K G H ts as p2
 | [],[],p,_,r=>⟨λ_=>0,p,λb=>by simp,.nil λ_=>rfl,r⟩
 | w::vs,b::bs,p,e,r=>by
  cases r with
  | @cons _ _ _ _ pa pb _ r1 rs e1 =>
   obtain⟨p1,p2,e2,e3,e4⟩:=RTs.avs (xs:=xs) (by simpa using e) rs
   cases r1 with
   | av r1=>exact⟨λc=>pa c+p1 c,p2,λc=>by have:=e1 c;have:=e2 c;dsimp only;omega,.cons r1 e3 (λ_=>rfl),e4⟩
theorem ZcP{l:Addr}{o:HO}{p q p' q':Fp}(h:∀ b u,p b+q b=0->H b=some u->p' b+q' b=0/\b≠l):Same (hid H p q) (hid (upd H l o) p' q'):=λb u e=>by
 unfold hid at e ⊢
 split at e
 ·rename_i z
  obtain⟨h1,h2⟩:=h b u z e
  rw[if_pos h1,Zah h2]
  exact e
 ·cases e
theorem SR.new{l:Addr}{vs:List V}{xs:List AV}(h:SR K H0 σ ρ (vs++ts) (xs.map TV.av++as) H)(e:vs.length=xs.length)(hl:H l=none):SR K H0 σ ρ (.ref l::ts) (.av (.own xs)::as) (upd H l (.lst vs)):=by
 obtain⟨⟨p,q,h1,h2,h3,h4⟩,s⟩:=h
 have hL:=SR.lsts h1 h2
 obtain⟨p1,p2,e2,e3,e4⟩:=RTs.avs (xs:=xs) e h2
 have z:∀ b u,H b=some u->b≠l:=λb u y w=>by subst w;rw[hl] at y;cases y
 have zl:p l+q l=0:=by
  rcases Nat.eq_zero_or_pos (p l+q l) with w|w
  ·exact w
  ·obtain⟨_,w,_⟩:=hL l w;rw[hl] at w;cases w
 have m:Same (hid H p q) (hid (upd H l (.lst vs)) p (λb=>((if b=l then 1 else 0)+p1 b)+p2 b)):=ZcP λb u y w=>by
  have:=z b u w
  refine⟨?_,this⟩
  have:=e2 b
  simp[*] at *
  omega
 have mo:∀ b u,H b=some u->upd H l (.lst vs) b=some u:=λb u y=>by rw[Zah (z b u y)];exact y
 have s2:Same H (upd H l (.lst vs)):=Zba hl
 refine⟨⟨p,λb=>((if b=l then 1 else 0)+p1 b)+p2 b,h1.mono m (λb o _=>mo b o),.cons (.av (.own Zak (e3.mono m λb o _=>mo b o) λ_=>rfl)) (e4.mono m s2) (λ_=>rfl),λb=>?_,λb w=>?_⟩,s.trans s2⟩
 ·have:=e2 b;have:=h3 b
  by_cases hb:b=l
  ·subst hb;simp;omega
  ·simp[hb];omega
 ·by_cases hb:b=l
  ·subst hb;exact s.free hl
  ·refine h4 b ?_;have:=e2 b;simp[hb] at w;omega
end
end VL
end
section
namespace VL
open PySem PySem.Spec L2
variable [Tabs]
mutual
def AV.clean:AV->Bool
 | .d x=>noLst x
 | .own xs=>AV.cleans xs
 | .tup xs=>AV.cleans xs
 | .dic kvs=>noLsts (kvs.map Prod.snd)
 | .obj _=>false
def AV.cleans:List AV->Bool
 | []=>true
 | x::xs=>x.clean && AV.cleans xs
end
def Rs(K:W.Frag)(H H':Hp)(v:V)(a:AV):Prop:=Same H H'/\∃ p:Fp,(∀ b,p b<=1)/\(∀ b,0<p b->H b=none)/\RA K (hid H' p λ_=>0) H' v a p
section
variable {K:W.Frag}{G H H' H0:Hp}{σ:St}{ρ:Sl}{ts:List V}{as:List TV}{v x y:V}{a b:TV}
theorem RA.clB{p q p' q':Fp}(hl:∀ b,0<p' b+q' b->∃ o,H b=some o/\Mu o):(∀ {v:V} {a:AV} {r:Fp},RA K (hid H p q) H v a r->a.clean=true->RA K (hid H p' q') H v a r)/\∀ {vs:List V} {xs:List AV} {r:Fp},RAs K (hid H p q) H vs xs r->AV.cleans xs=true->RAs K (hid H p' q') H vs xs r:=by
 refine RA.ind (M:=λv a r=>a.clean=true->RA K (hid H p' q') H v a r) (N:=λvs xs r=>AV.cleans xs=true->RAs K (hid H p' q') H vs xs r) (λr e hc=>.d (Rep.hid hl (by simpa [AV.clean] using hc) (r.same Zbg)) e) (λh i e hc=>.own h (i (by simpa [AV.clean] using hc)) e) (λh i hc=>.tup (Zi3 hl (Zbg _ _ h)) (i (by simpa [AV.clean] using hc))) (λ{a o kvs qq} h d e hc=>.dic h ?_ e) (λ_ _ _ hc=>by simp[AV.clean] at hc) (λe _=>.nil e) λi j e hc=>?_
 ·have hn:noLsts (kvs.map Prod.snd)=true:=by simpa [AV.clean] using hc
  have key:∀ {κ:Type} {ks:List (κ×V)} {ds:List PyData} {en:κ->PyData},Reps K (hid H p q) (ks.map Prod.snd) ds->kvs=(ks.map λp=>en p.1).zip ds->Reps K (hid H p' q') (ks.map Prod.snd) ds:=λr z=>by
   rw[z,List.map_snd_zip (by rw[List.length_map,<- r.length,List.length_map];exact Nat.le_refl _)] at hn
   exact Reps.hid hl hn (r.same Zbg)
  rcases d with⟨ks,ds,e1,r,z⟩|⟨ks,ds,e1,r,z⟩|⟨ks,ds,n,e1,r,z⟩
  ·exact .inl ⟨ks,ds,e1,key r z,z⟩
  ·exact .inr (.inl ⟨ks,ds,e1,key (en:=λk=>PyData.tuple (k.map keyD)) r z,z⟩)
  ·exact .inr (.inr ⟨ks,ds,n,e1,key (en:=λk=>PyData.tuple [keyD k.1,.tuple (k.2.map keyD)]) r z,z⟩)
 ·simp only[AV.cleans,Bool.and_eq_true] at hc
  exact .cons (i hc.1) (j hc.2) e
theorem RA.cl{p q p' q':Fp}(hl:∀ b,0<p' b+q' b->∃ o,H b=some o/\Mu o){v:V}{a:AV}{r:Fp}(hc:a.clean=true)(h:RA K (hid H p q) H v a r):RA K (hid H p' q') H v a r:=(RA.clB hl).1 h hc
theorem RAs.cl{p q p' q':Fp}(hl:∀ b,0<p' b+q' b->∃ o,H b=some o/\Mu o){vs:List V}{xs:List AV}{r:Fp}(hc:AV.cleans xs=true)(h:RAs K (hid H p q) H vs xs r):RAs K (hid H p' q') H vs xs r:=(RA.clB hl).2 h hc
theorem SR.got{c:AV}(h:SR K H0 σ ρ ts as H)(r:Rs K H H' v c)(hc:c.clean=true):SR K H0 σ ρ (v::ts) (.av c::as) H':=by
 obtain⟨e,p0,n1,n2,ra⟩:=r
 obtain⟨⟨p,q,h1,h2,h3,h4⟩,s⟩:=h
 have hL:=SR.lsts h1 h2
 have z:∀ b,0<p b+q b->p0 b=0:=λb w=>by
  obtain⟨vs,y,_⟩:=hL b w
  rcases Nat.eq_zero_or_pos (p0 b) with u|u
  ·exact u
  ·rw[n2 b u] at y;cases y
 have m:Same (hid H p q) (hid H' p (λb=>p0 b+q b)):=λb o w=>by
  unfold hid at w ⊢
  split at w
  ·rename_i y
   have:p0 b=0:=by
    rcases Nat.eq_zero_or_pos (p0 b) with u|u
    ·exact u
    ·rw[n2 b u] at w;cases w
   rw[if_pos (show p b+(p0 b+q b)=0 by omega)]
   exact e b o w
  ·cases w
 refine⟨⟨p,λb=>p0 b+q b,h1.mono m (λb o _=>e b o),.cons (.av (RA.cl (p':=p) (q':=λb=>p0 b+q b) (λb w=>?_) hc ra)) (h2.mono m e) (λ_=>rfl),λb=>?_,λb w=>?_⟩,s.trans e⟩
 ·rcases Nat.eq_zero_or_pos (p0 b) with u|u
  ·have w':0<p b+(p0 b+q b):=w
   obtain⟨vs,y,mu⟩:=hL b (by omega);exact⟨vs,e _ _ y,mu⟩
  ·exact ra.lst b u
 ·have:=h3 b;have:=n1 b;have:=z b
  show p b+(p0 b+q b)<=1
  omega
 ·rcases Nat.eq_zero_or_pos (p0 b) with u|u
  ·have w':0<p b+(p0 b+q b):=w
   exact h4 b (by omega)
  ·exact s.free (n2 b u)
theorem SR.gotB{c:AV}(h:SR K H0 σ ρ ts as H)(r:Rs K H H' v c):SR K H0 σ ρ (v::ts) (.bor c.data::as) H':=by
 obtain⟨e,p0,_,_,ra⟩:=r
 exact (h.ext e).pushB (ra.rep Zbg)
def NoOwn(ρ:Sl):Prop:=∀ a∈ρ,∀ x,a=some x->(∃ d,x=.d d)\/∃ φ,x=.obj φ
theorem NoOwn.nil:NoOwn []:=λ_ h=>nomatch h
theorem NoOwn.no(h:NoOwn ρ):NoOwn (none::ρ):=λb hb x z=>by
 rcases List.mem_cons.mp hb with e|e
 ·subst e;cases z
 ·exact h b e x z
theorem NoOwn.d{d:PyData}(h:NoOwn ρ):NoOwn (some (.d d)::ρ):=λb hb x z=>by
 rcases List.mem_cons.mp hb with e|e
 ·subst e;cases z;exact .inl ⟨d,rfl⟩
 ·exact h b e x z
theorem NoOwn.o{φ:V->Hp->Prop}(h:NoOwn ρ):NoOwn (some (.obj φ)::ρ):=λb hb x z=>by
 rcases List.mem_cons.mp hb with e|e
 ·subst e;cases z;exact .inr ⟨φ,rfl⟩
 ·exact h b e x z
theorem RSl.noOwn{p:Fp}(r:RSl K G H σ ρ p)(h:NoOwn ρ):∀ b,p b=0:=by
 induction r with
 | nil e=>exact e
 | no _ ih=>exact ih λa ha=>h a (.tail _ ha)
 | so ra _ e ih =>
  rcases h _ (.head _) _ rfl with⟨d,rfl⟩|⟨φ,rfl⟩
  ·intro b
   have:=ih (λa ha=>h a (.tail _ ha)) b
   cases ra with
   | d _ e2=>have:=e b;have:=e2 b;omega
  ·intro b
   have:=ih (λa ha=>h a (.tail _ ha)) b
   cases ra with
   | obj _ _ e2=>have:=e b;have:=e2 b;omega
theorem RTs.stb{p:Fp}(r:RTs K G H ts as p)(h:Stb as):∀ b,p b=0:=by
 induction r with
 | nil e=>exact e
 | cons r _ e ih =>
  obtain⟨d,rfl⟩:=h _ (.head _)
  intro b
  have:=ih (λa ha=>h a (.tail _ ha)) b
  cases r with
  | av ra=>cases ra with
   | d _ e2=>have:=e b;have:=e2 b;omega
def Sto(ρ:Sl)(a:TV)(a':AV):Prop:=a.sto=some a'\/(∃ c,a=.av c/\a'=.d c.data)\/(NoOwn ρ/\(∃ x,a=.bor x)/\a'=.d a.data)
theorem SR.stoS{a':AV}(h:SR K H0 σ ρ (v::ts) (a::as) H)(hS:Stb as)(e:Sto ρ a a'):SR K H0 σ ρ (v::ts) (.av a'::as) H:=by
 rcases e with e|⟨c,rfl,rfl⟩|⟨n,⟨x,rfl⟩,rfl⟩
 ·exact h.sto e
 ·exact h.frzT
 ·have t:=h.top (a:=.bor x) λ_ z=>nomatch z
  obtain⟨⟨p,q,h1,h2,h3,h4⟩,s⟩:=h.pop
  have z1:=h1.noOwn n
  have z2:=h2.stb hS
  refine⟨⟨p,q,h1,.cons (.av (.d (p:=λ_=>0) (t.same λb o w=>?_) λ_=>rfl)) h2 (λb=>by simp),h3,h4⟩,s⟩
  unfold hid
  rw[if_pos (by have:=z1 b;have:=z2 b;omega)]
  exact w
end
def ItOk(K:W.Frag)(J:It)(u:V)(z:PyData)(n:Nat)(f:Nat->PyData):Prop :=
 ∀ G H,Same G H->Rep K G u z->(∀ i,i<n->J.go i H/\∀ x H',J.yld i H x H'->Same H H'/\∀ G',Same G G'->(∀ b o,H' b=some o->H b=none->G' b=some o)->Rep K G' x (f i))/\∀ i,n<=i->J.stop i H
def TV.frz:TV->TV
 | .av a=>.av (.d a.data)
 | .bor x=>.bor x
 | .raw v=>.raw v
section
variable (K:W.Frag)(E:FK)(X:Exc->Sl->Prop)
def Iv(wi:TI)(ρ:Sl)(Q:Nat->(Nat->PyData)->TV->Prop):Prop :=
 ∀ (H0:Hp) (σ:St) (ts:List V) (as:List TV) (H:Hp) (R:It->Hp->Prop),SR K H0 σ ρ ts as H->XOk K E X H0 ->
  (∀ n f h,Q n f h->∀ u J H',(∀ v,h≠.raw v)->SR K H0 σ ρ (u::ts) (h::as) H'->ItOk K J u h.data n f->R J H')->wi σ H R
def Gv(g:TG)(x:PyData)(ρ:Sl)(P:Sl->Prop):Prop :=
 ∀ (H0:Hp) (σ:St) (ts:List V) (as:List TV) (H:Hp) (v:V) (Qg:St->Hp->Prop),SR K H0 σ ρ (v::ts) (.av (.d x)::as) H->(∀ ρ',P ρ'->∀ σ' H',SR K H0 σ' ρ' ts as H'->Qg σ' H')->g v σ H Qg
end
def Wk(ρ ρ':Sl):Prop:=∀ (K:W.Frag) (H0:Hp) (σ:St) (ts:List V) (as:List TV) (H:Hp),SR K H0 σ ρ ts as H->SR K H0 σ ρ' ts as H
section
variable {K:W.Frag}{E:FK}{X:Exc->Sl->Prop}{ρ:Sl}{Q:TV->Prop}{DV:VEnds}{ta tb te:TE}{i j:Int}{n:Nat}{r:R2}{t u:TS}{a b:TV}
theorem ZeP{Q':TV->Prop}(h:Ev K E X te ρ Q)(m:∀ a,Q a->Q' a):Ev K E X te ρ Q':=λH0 σ ts as H QV s x q=>h H0 σ ts as H QV s x λa qa=>q a (m a qa)
theorem SR.var{K:W.Frag}{H0 H:Hp}{σ:St}{ρ:Sl}{ts:List V}{as:List TV}{i:Nat}{a:AV}(s:SR K H0 σ ρ ts as H)(h:ρ[i]?=some (some a)):∃ v,σ[i]?=some (some v)/\(∀ x,a=.d x->SR K H0 σ ρ (v::ts) (.av (.d x)::as) H)/\SR K H0 σ ρ (v::ts) (.bor a.data::as) H:=by
 obtain⟨⟨p,q,h1,h2,h3,h4⟩,e⟩:=s
 obtain⟨p1,p2,v,e1,e2,e3,e4⟩:=h1.frz h λ_ _ _ _=>trivial
 refine⟨v,e2,λx z=>?_,SR.pushB ⟨⟨p,q,h1,h2,h3,h4⟩,e⟩ (e3.rep Zbg)⟩
 subst z
 cases e3 with
 | d rp z=>exact⟨⟨p,q,h1,.cons (.av (.d (p:=λ_=>0) rp λ_=>rfl)) h2 (λb=>by simp),h3,h4⟩,e⟩
theorem Zcc{x:PyData}(h:ρ[n]?=some (some (.d x)))(q:Q (.av (.d x))):Ev K E X (tVar n) ρ Q:=λH0 σ ts as H QV s _ k=>by
 obtain⟨v,e1,e2,_⟩:=s.var h
 exact⟨v,e1,k _ q v H (e2 x rfl)⟩
theorem Zcj{a:AV}(h:ρ[n]?=some (some a))(q:Q (.bor a.data)):Ev K E X (tVar n) ρ Q:=λH0 σ ts as H QV s _ k=>by
 obtain⟨v,e1,_,e2⟩:=s.var h
 exact⟨v,e1,k _ q v H e2⟩
theorem ZnC(q:Q (.av (.d (.int i)))):Ev K E X (tC (.int i)) ρ Q:=λH0 σ ts as H QV s _ k=>k _ q _ H (s.int i)
theorem ZnD{c:Str}(q:Q (.av (.d (.str c)))):Ev K E X (tC (.str c)) ρ Q:=λH0 σ ts as H QV s _ k=>k _ q _ H (s.push λ_=>.str c)
theorem Zo1(h:Ev K E X ta ρ λa=>Ev K E X tb ρ λb=>Op K E X r a b Q):Ev K E X (tOp r ta tb) ρ Q:=λH0 σ ts as H QV s x k =>
 h H0 σ ts as H _ s x λa qa v H' s'=>qa H0 σ _ _ H' _ s' x λb qb w H2 s2=>qb H0 σ ρ ts as H2 v w QV s2 x k
theorem ints2{H0 H:Hp}{σ:St}{ρ:Sl}{ts:List V}{as:List TV}{x y:V}(s:SR K H0 σ ρ (y::x::ts) (.av (.d (.int j))::.av (.d (.int i))::as) H):x=.int i/\y=.int j/\SR K H0 σ ρ ts as H :=
 ⟨s.pop.top_d.int_inv,s.top_d.int_inv,s.pop.pop⟩
theorem ZnE{g:Int->Int->Int}(q:Q (.av (.d (.int (g i j))))):Op K E X (rI0 λi j=>.int (g i j)) (.av (.d (.int i))) (.av (.d (.int j))) Q:=λH0 σ ρ ts as H x y QV s _ k=>by
 obtain⟨rfl,rfl,s'⟩:=ints2 s
 exact⟨i,j,rfl,rfl,k _ q _ H (s'.int _)⟩
theorem Zo2{g:Int->Int->Bool}(q:Q (.av (.d (.bool (g i j))))):Op K E X (rI0 λi j=>.bl (g i j)) (.av (.d (.int i))) (.av (.d (.int j))) Q:=λH0 σ ρ ts as H x y QV s _ k=>by
 obtain⟨rfl,rfl,s'⟩:=ints2 s
 exact⟨i,j,rfl,rfl,k _ q _ H (s'.bl _)⟩
theorem op_i{C:Int->Int->Prop}{g:Int->Int->Int}(c:C i j)(q:Q (.av (.d (.int (g i j))))):Op K E X (rI C λi j=>.int (g i j)) (.av (.d (.int i))) (.av (.d (.int j))) Q:=λH0 σ ρ ts as H x y QV s _ k=>by
 obtain⟨rfl,rfl,s'⟩:=ints2 s
 exact⟨i,j,rfl,rfl,c,k _ q _ H (s'.int _)⟩
theorem ZnF(q:Q (.av (.d (.bool (!decide (i=j)))))):Op K E X rNe (.av (.d (.int i))) (.av (.d (.int j))) Q:=λH0 σ ρ ts as H x y QV s _ k=>by
 obtain⟨rfl,rfl,s'⟩:=ints2 s
 exact Znt (k _ q _ H (s'.bl _))
theorem Rep.bl_inv{H:Hp}{v:V}{c:Bool}(h:Rep K H v (.bool c)):v=.bl c:=by cases h;rfl
def NR(a:TV):Prop:=∀ v,a≠.raw v
theorem NR.av{c:AV}:NR (.av c):=λ_ z=>nomatch z
theorem NR.bor{c:PyData}:NR (.bor c):=λ_ z=>nomatch z
theorem ZnG{α:Type}[DecidableEq α]{f:α->PyData}{m:Nat}{c d:α}(F:Enc f m)(ha:a.data=f c)(hb:b.data=f d)(q:Q (.av (.d (.bool (decide (c=d))))))(na:NR a:=by first|exact NR.av|exact NR.bor)(nb:NR b:=by first|exact NR.av|exact NR.bor)(hm:m<=32:=by decide):Op K E X (rEqD K) a b Q:=λH0 σ ρ ts as H x y QV s _ k =>
 Znu F (ha▸s.pop.top na) (hb▸s.top nb) (k _ q _ H (s.pop.pop.bl _)) hm
theorem ZnH{α:Type}[DecidableEq α]{f:α->PyData}{m:Nat}{c d:α}(F:Enc f m)(ha:a.data=f c)(hb:b.data=f d)(q:Q (.av (.d (.bool (!decide (c=d))))))(na:NR a:=by first|exact NR.av|exact NR.bor)(nb:NR b:=by first|exact NR.av|exact NR.bor)(hm:m<=32:=by decide):Op K E X (rNeD K) a b Q:=λH0 σ ρ ts as H x y QV s _ k =>
 Znv F (ha▸s.pop.top na) (hb▸s.top nb) (k _ q _ H (s.pop.pop.bl _)) hm
theorem Reps.atI{H:Hp}{vs:List V}{ds:List PyData}{k:Int}{y:PyData}(h:Reps K H vs ds)(e:atI ds k=some y):∃ v,L2.atI vs k=some v/\Rep K H v y:=by
 unfold L2.atI at e ⊢
 rw[h.length]
 cases z:ixN ds.length k with
 | none=>rw[z] at e;cases e
 | some j =>
  rw[z] at e
  obtain⟨v,e1,e2⟩:=h.get (i:=j) (d:=y) e
  exact⟨v,e1,e2⟩
def Item(a:TV)(y:PyData)(c:TV):Prop:=(a=.av (.d a.data)/\c=.av (.d y))\/(noLst y=true/\c=.av (.d y))\/c=.bor y
theorem SR.item{H0 H:Hp}{σ:St}{ρ:Sl}{ts:List V}{as:List TV}{x:V}{a c:TV}{y:PyData}(s:SR K H0 σ ρ (x::ts) (a::as) H)(na:NR a)(it:Item a y c)(P:V->Prop)(h:∀ G,Rep K G x a.data->Same G H->∃ v,P v/\Rep K G v y):∃ v,P v/\SR K H0 σ ρ (v::ts) (c::as) H:=by
 rcases it with⟨e,rfl⟩|⟨hy,rfl⟩|rfl
 ·rw[e] at s
  obtain⟨⟨p,q,h1,h2,h3,h4⟩,e'⟩:=s
  cases h2 with
  | cons r rs z=>cases r with
   | av r=>cases r with
    | d rp w =>
     obtain⟨v,e1,e2⟩:=h _ rp Zbg
     exact⟨v,e1,⟨p,q,h1,.cons (.av (.d e2 w)) rs z,h3,h4⟩,e'⟩
 ·obtain⟨v,e1,e2⟩:=h _ (s.top na) (.refl H)
  exact⟨v,e1,s.pop.pushF hy e2⟩
 ·obtain⟨v,e1,e2⟩:=h _ (s.top na) (.refl H)
  exact⟨v,e1,s.pop.pushB e2⟩
theorem Item.d{x y:PyData}:Item (.av (.d x)) y (.av (.d y)):=.inl ⟨rfl,rfl⟩
theorem Item.flat{y:PyData}(h:noLst y=true):Item a y (.av (.d y)):=.inr (.inl ⟨h,rfl⟩)
theorem ZnI{ds:List PyData}{y:PyData}{c:TV}{k:Int}(ha:a.data=.list ds)(e:atI ds k=some y)(it:Item a y c)(q:Q c)(na:NR a:=by first|exact NR.av|exact NR.bor):Op K E X (rIxL K) a (.av (.d (.int k))) Q:=λH0 σ ρ ts as H x w QV s _ kk=>by
 have e2:=s.top_d.int_inv
 subst e2
 obtain⟨v,⟨p,xs,e3,e4,e5⟩,s'⟩:=s.pop.item na it (λv=>∃ p xs,x=.ref p/\SqL K H p xs/\L2.atI xs k=some v) λG rp sm=>by
  rw[ha] at rp
  obtain⟨p,xs,rfl,h1,h2⟩:=rp.list_inv
  obtain⟨v,h3,h4⟩:=Reps.atI h2 e
  exact⟨v,⟨p,xs,rfl,sm.seq h1,h3⟩,h4⟩
 exact⟨p,xs,k,v,e3,rfl,e4,e5,kk _ q _ H s'⟩
theorem ZnJ{ds:List PyData}{y:PyData}{c:TV}{k:Int}(ha:a.data=.tuple ds)(e:atI ds k=some y)(it:Item a y c)(q:Q c)(na:NR a:=by first|exact NR.av|exact NR.bor):Op K E X (rIxT K) a (.av (.d (.int k))) Q:=λH0 σ ρ ts as H x w QV s _ kk=>by
 have e2:=s.top_d.int_inv
 subst e2
 obtain⟨v,⟨p,xs,e3,e4,e5⟩,s'⟩:=s.pop.item na it (λv=>∃ p xs,x=.ref p/\SqT K H p xs/\L2.atI xs k=some v) λG rp sm=>by
  rw[ha] at rp
  obtain⟨p,xs,rfl,h1,h2⟩:=rp.tuple_inv
  obtain⟨v,h3,h4⟩:=Reps.atI h2 e
  exact⟨v,⟨p,xs,rfl,sm.tupS h1,h3⟩,h4⟩
 exact⟨p,xs,k,v,e3,rfl,e4,e5,kk _ q _ H s'⟩
theorem ZlA{P:List TV->Prop}(q:P []):Ea K E X tNil ρ P:=λH0 σ ts as H QV s _ k=>k [] q [] H s rfl
theorem Zl8{A:TA}{P:List TV->Prop}(h:Ev K E X ta ρ λa=>Ea K E X A ρ λbs=>P (a::bs)):Ea K E X (tCons ta A) ρ P:=λH0 σ ts as H QV s x k =>
 h H0 σ ts as H _ s x λa qa v H' s'=>qa H0 σ _ _ H' _ s' x λbs qb vs H2 s2 hl=>k (a::bs) qb (v::vs) H2 (s2.rot hl) (by simp[hl])
theorem Zo3{r:List V->Hp->VK->Prop}{A:TA}(h:Ea K E X A ρ λbs=>Bi K E X r bs Q):Ev K E X (tCB r A) ρ Q:=λH0 σ ts as H QV s x k =>
 h H0 σ ts as H _ s x λbs qb vs H2 s2 hl=>qb H0 σ ρ ts as H2 vs QV s2 hl x k
theorem Stos.len{bs:List TV}{xs:List AV}(h:Stos bs xs):bs.length=xs.length:=by
 induction h with
 | nil=>rfl
 | cons _ _ ih=>simp[ih]
theorem Zho{A:TA}(h:Ea K E X A ρ λbs=>∃ xs,Stos bs xs/\bs.length<=1000/\Q (.av (.own xs))):Ev K E X (tLst A) ρ Q:=λH0 σ ts as H QV s x k =>
 h H0 σ ts as H _ s x λbs ⟨xs,hs,hz,q⟩ vs H2 s2 hl=>⟨Nat.le_of_lt (small1000 (by omega)),λp hp=>k _ q _ _ (SR.new (SR.stos (us:=[]) (cs:=[]) hs hl rfl s2) (by rw[hl,hs.len]) hp)⟩
theorem SR.newT{H0 H:Hp}{σ:St}{ρ:Sl}{ts:List V}{as:List TV}{l:Addr}{vs:List V}{xs:List AV}(h:SR K H0 σ ρ (vs++ts) (xs.map TV.av++as) H)(e:vs.length=xs.length)(hl:H l=none):SR K H0 σ ρ (.ref l::ts) (.av (.d (.tuple (AV.datas xs)))::as) (upd H l (.tup vs)):=by
 obtain⟨⟨p,q,h1,h2,h3,h4⟩,s⟩:=h
 have hL:=SR.lsts h1 h2
 obtain⟨p1,p2,e2,e3,e4⟩:=RTs.avs (xs:=xs) e h2
 have s2:Same H (upd H l (.tup vs)):=Zba hl
 have zl:p l+q l=0:=by
  rcases Nat.eq_zero_or_pos (p l+q l) with w|w
  ·exact w
  ·obtain⟨_,w,_⟩:=hL l w;rw[hl] at w;cases w
 have m:Same (hid H p q) (hid (upd H l (.tup vs)) p p2):=(hid_more (p':=p) (q':=p2) λb z=>by have:=e2 b;omega).trans (ZcC s2)
 refine⟨⟨p,p2,h1.mono m (λb o _=>s2 b o),.cons (.av (.d (p:=λ_=>0) (.tup ?_ (e3.frz m λb o y z=>?_)) λ_=>rfl)) (e4.mono m s2) (λb=>by simp),λb=>by have:=e2 b;have:=h3 b;omega,λb z=>h4 b (by have:=e2 b;omega)⟩,s.trans s2⟩
 ·unfold hid;rw[if_pos (by have:=e2 l;omega)];exact Zak
 ·unfold hid;rw[if_pos (by have:=e2 b;have:=h3 b;omega)];exact s2 b o z
theorem ZbC{A:TA}(h:Ea K E X A ρ λbs=>∃ xs,Stos bs xs/\bs.length<=1000/\Q (.av (.d (.tuple (AV.datas xs))))):Ev K E X (tTup A) ρ Q:=λH0 σ ts as H QV s x k =>
 h H0 σ ts as H _ s x λbs ⟨xs,hs,hz,q⟩ vs H2 s2 hl=>⟨Nat.le_of_lt (small1000 (by omega)),λp hp=>k _ q _ _ (SR.newT (SR.stos (us:=[]) (cs:=[]) hs hl rfl s2) (by rw[hl,hs.len]) hp)⟩
theorem Zl9{P:Bool->Prop}(h:Ev K E X te ρ λa=>∃ c,a=.av (.d (.bool c))/\P c):Tv K E X (tTest te) ρ P:=λH0 σ ts as H QV s x k =>
 h H0 σ ts as H _ s x λa ⟨c,e,p⟩ v H' s'=>by subst e;exact⟨c,Rep.bl_inv s'.top_d,k c p H' s'.pop⟩
theorem Zo4{ca cb:TT}{P:Bool->Prop}(h:Tv K E X ca ρ λc=>if c=true then P true else Tv K E X cb ρ P):Tv K E X (tOr ca cb) ρ P:=λH0 σ ts as H QV s x k =>
 h H0 σ ts as H _ s x λc qc H' s'=>by
  cases c with
  | true=>rw[if_pos rfl] at qc ⊢;exact k _ qc H' s'
  | false=>rw[if_neg Bool.false_ne_true] at qc ⊢;exact qc H0 σ ts as H' QV s' x k
theorem Zhp{P:Bool->Prop}(q:P true):Tv K E X tAll ρ P:=λH0 σ ts as H QV s x k=>k _ q H s
theorem ZnK(h:Sv K E X t ρ { DV with nx:=λρ'=>Sv K E X u ρ' DV }):Sv K E X (tSeq t u) ρ DV:=λH0 σ ts as H D st s x f =>
 h H0 σ ts as H { D with nx:=u D } st s x ⟨λρ' q σ' H' s'=>q H0 σ' ts as H' D st s' x f,f.bk,f.ct,f.rt⟩
theorem Zma(h:DV.nx ρ):Sv K E X tNext ρ DV:=λH0 σ ts as H D st s x f=>f.nx ρ h σ H s
theorem Zmb(h:Ev K E X te ρ λ_=>DV.nx ρ):Sv K E X (tDrop te) ρ DV:=λH0 σ ts as H D st s x f =>
 h H0 σ ts as H _ s x λa q v H' s'=>f.nx ρ q σ H' s'.pop
theorem ZnL(h:Ev K E X te ρ DV.rt):Sv K E X (tRet te) ρ DV:=λH0 σ ts as H D st s x f =>
 h H0 σ ts as H _ s x λa q v H' s'=>f.rt a q v σ ρ H' s'
theorem ZnM{c:TT}(h:Tv K E X c ρ λb=>if b=true then Sv K E X t ρ DV else Sv K E X u ρ DV):Sv K E X (tIfS c t u) ρ DV:=λH0 σ ts as H D st s x f =>
 h H0 σ ts as H _ s x λc qc H' s'=>by
  cases c with
  | true=>rw[if_pos rfl] at qc ⊢;exact qc H0 σ ts as H' D st s' x f
  | false=>rw[if_neg Bool.false_ne_true] at qc ⊢;exact qc H0 σ ts as H' D st s' x f
theorem ZcL(h:Ev K E X te ρ λa=>∃ a',Sto ρ a a'/\DV.nx (ρ.set n (some a')))(hn:n<ρ.length:=by simp):Sv K E X (tAsg te (gName n)) ρ DV:=λH0 σ ts as H D st s x f =>
 h H0 σ ts as H _ s x λa ⟨a',e,q⟩ v H' s'=>f.nx _ q _ H' ((s'.stoS st e).store hn)
theorem ZbY{x:PyData}{P:Sl->Prop}(h:P (ρ.set n (some (.d x))))(hn:n<ρ.length:=by simp):Gv K (gName n) x ρ P:=λH0 σ ts as H v Qg s k=>k _ h _ H (s.store hn)
end
end VL
end
section
namespace VL
open PySem PySem.Spec L2
variable [Tabs]
theorem small6{n:Nat}(h:n<=1000000):n<sizeLine:=Nat.lt_of_le_of_lt h (by decide)
section
variable {K:W.Frag}{G H H' H0:Hp}{σ:St}{ρ:Sl}{ts:List V}{as:List TV}{v y:V}{b:TV}
theorem RAs.len:∀ {vs:List V} {xs:List AV} {p:Fp},RAs K G H vs xs p->vs.length=xs.length
 | _,_,_,.nil _=>rfl
 | _,_,_,.cons _ rs _=>by simp[RAs.len rs]
theorem RAs.snoc{w:V}{c:AV}{q:Fp}(r:RA K G H w c q):∀ {vs:List V} {xs:List AV} {p:Fp},RAs K G H vs xs p->RAs K G H (vs++[w]) (xs++[c]) (λb=>p b+q b)
 | _,_,_,.nil e=>.cons r (.nil (p:=λ_=>0) λ_=>rfl) (λb=>by have:=e b;simp;omega)
 | _,_,_,.cons (p:=p1) (q:=q1) r1 rs e=>.cons r1 (RAs.snoc r rs) (λb=>by have:=e b;show _+q b=p1 b+(q1 b+q b);omega)
theorem RAs.set{w:V}{c:AV}{q:Fp}(r:RA K G H w c q):∀ {vs:List V} {xs:List AV} {p:Fp} (j:Nat),RAs K G H vs xs p->∃ p':Fp,(∀ b,p' b<=p b+q b)/\RAs K G H (vs.set j w) (xs.set j c) p'
 | _,_,p,j,.nil e=>⟨p,λb=>by omega,.nil e⟩
 | _,_,_,0,.cons (q:=q1) r1 rs e=>⟨λb=>q b+q1 b,λb=>by have:=e b;dsimp only;omega,.cons r rs λ_=>rfl⟩
 | _,_,_,j+1,.cons (p:=p1) r1 rs e=>by
  obtain⟨p',h1,h2⟩:=RAs.set r j rs
  exact⟨λb=>p1 b+p' b,λb=>by have:=e b;have:=h1 b;dsimp only;omega,.cons r1 h2 λ_=>rfl⟩
theorem RAs.rev:∀ {vs:List V} {xs:List AV} {p:Fp},RAs K G H vs xs p->∃ p':Fp,(∀ b,p' b=p b)/\RAs K G H vs.reverse xs.reverse p'
 | _,_,p,.nil e=>⟨p,λ_=>rfl,.nil e⟩
 | _,_,_,.cons (p:=p1) r1 rs e=>by
  obtain⟨p',h1,h2⟩:=RAs.rev rs
  refine⟨λb=>p' b+p1 b,λb=>by have:=e b;have:=h1 b;dsimp only;omega,?_⟩
  rw[List.reverse_cons,List.reverse_cons]
  exact RAs.snoc r1 h2
theorem SR.writeE{i:Nat}{xs xs':List AV}{c:AV}(h:SR K H0 σ ρ (v::ts) (.av c::as) H)(hS:Stb as)(hi:ρ[i]?=some (some (.own xs))) :
  ∃ l vs,σ[i]?=some (some (.ref l))/\H l=some (.lst vs)/\vs.length=xs.length/\∀ vs',(∀ G H' p q,(∀ b o,0<q b->H b=some o->H' b=some o)->RAs K G H' vs xs p->RA K G H' v c q->∃ p':Fp,(∀ b,p' b<=p b+q b)/\RAs K G H' vs' xs' p')->SR K H0 σ (ρ.set i (some (.own xs'))) ts as (upd H l (.lst vs')):=by
 obtain⟨⟨p,q,h1,h2,h3,h4⟩,s⟩:=h
 obtain⟨p1,p2,w,e1,e2,e3,e4⟩:=h1.frz hi λ_ _ _ _=>trivial
 cases h2 with
 | @cons _ _ _ _ q1 q2 _ r rs eq =>
  cases r with
  | av r =>
  cases e3 with
  | @own l vs _ p3 _ hl hr ep =>
   refine⟨l,vs,e2,hl,hr.len,λvs' hw=>?_⟩
   have hpl:p1 l=1+p3 l:=by have:=ep l;simpa using this
   have ne:∀ b u,p b+q b=0->H b=some u->b≠l:=λb u z _ y=>by subst y;have:=e1 b;omega
   have m0:Same (hid H p q) (hid (upd H l (.lst vs')) p q):=ZcP λb u z w=>⟨z,ne b u z w⟩
   have k1:∀ b o,0<p3 b->H b=some o->upd H l (.lst vs') b=some o:=λb o z w=>by
    rw[Zah (λy=>by subst y;have:=h3 b;have:=e1 b;omega)];exact w
   have k2:∀ b o,0<q b->H b=some o->upd H l (.lst vs') b=some o:=λb o z w=>by
    rw[Zah (λy=>by subst y;have:=h3 b;have:=e1 b;omega)];exact w
   have k3:∀ b o,0<p2 b->H b=some o->upd H l (.lst vs') b=some o:=λb o z w=>by
    rw[Zah (λy=>by subst y;have:=h3 b;have:=e1 b;omega)];exact w
   obtain⟨p',l1,l2⟩:=hw _ _ _ _ (λb o z=>k2 b o (by have:=eq b;omega)) (hr.mono m0 k1) (r.mono m0 λb o z=>k2 b o (by have:=eq b;omega))
   have z:=e4 (hid (upd H l (.lst vs')) p q) (upd H l (.lst vs')) (.ref l) (.own xs') (λb=>(if b=l then 1 else 0)+p' b) (λb=>((if b=l then 1 else 0)+p' b)+p2 b) m0 k3 (.own Zak l2 λ_=>rfl) (λ_=>rfl)
   rw[Zdb e2] at z
   have s2:Same H0 (upd H l (.lst vs')):=s.updF (h4 l (by have:=e1 l;omega))
   refine SR.of_le (p:=p) (q:=q) (p':=λb=>((if b=l then 1 else 0)+p' b)+p2 b) (q':=q2) s2 h3 h4 (λb=>?_) z (rs.monoS m0 hS λb o y=>k2 b o (by have:=eq b;omega))
   have:=l1 b;have:=ep b;have:=e1 b;have:=eq b
   show ((if b=l then 1 else 0)+p' b)+p2 b+q2 b<=p b+q b
   omega
theorem SR.write{i:Nat}{xs xs':List AV}{c:AV}(h:SR K H0 σ ρ (v::ts) (.av c::as) H)(hS:Stb as)(hi:ρ[i]?=some (some (.own xs))) :
  ∃ l vs,σ[i]?=some (some (.ref l))/\H l=some (.lst vs)/\vs.length=xs.length/\∀ vs',(∀ G H p q,RAs K G H vs xs p->RA K G H v c q->∃ p':Fp,(∀ b,p' b<=p b+q b)/\RAs K G H vs' xs' p')->SR K H0 σ (ρ.set i (some (.own xs'))) ts as (upd H l (.lst vs')):=by
 obtain⟨l,vs,e1,e2,e3,e4⟩:=h.writeE (xs':=xs') hS hi
 exact⟨l,vs,e1,e2,e3,λvs' hw=>e4 vs' λG H' p q _=>hw G H' p q⟩
theorem RSl.take{m:Nat}{c:AV}{p:Fp}(r:RSl K G H σ ρ p)(hm:ρ[m]?=some (some c)):∃ (p1 p2:Fp) (w:V),(∀ b,p b=p1 b+p2 b)/\σ[m]?=some (some w)/\RA K G H w c p1/\RSl K G H σ (ρ.set m none) p2:=by
 induction r generalizing m with
 | nil _=>simp at hm
 | @no o σ ρ p r ih =>
  cases m with
  | zero=>simp at hm
  | succ m =>
   obtain⟨p1,p2,w,e1,e2,e3,e4⟩:=ih (by simpa using hm)
   exact⟨p1,p2,w,e1,by simpa using e2,e3,.no e4⟩
 | @so v a0 σ ρ pa pb pr ra r e ih =>
  cases m with
  | zero =>
   have:a0=c:=by simpa using hm
   subst this
   exact⟨pa,pb,v,e,rfl,ra,.no r⟩
  | succ m =>
   obtain⟨p1,p2,w,e1,e2,e3,e4⟩:=ih (by simpa using hm)
   exact⟨p1,λb=>pa b+p2 b,w,λb=>by have:=e b;have:=e1 b;dsimp only;omega,by simpa using e2,e3,.so ra e4 λ_=>rfl⟩
theorem SR.take{m:Nat}{c:AV}(h:SR K H0 σ ρ ts as H)(hm:ρ[m]?=some (some c)):∃ w,σ[m]?=some (some w)/\SR K H0 σ (ρ.set m none) (w::ts) (.av c::as) H:=by
 obtain⟨⟨p,q,h1,h2,h3,h4⟩,s⟩:=h
 obtain⟨p1,p2,w,e1,e2,e3,e4⟩:=h1.take hm
 refine⟨w,e2,SR.of_le (p:=p) (q:=q) (p':=p2) (q':=λb=>p1 b+q b) s h3 h4 (λb=>?_) e4 (.cons (.av e3) h2 λ_=>rfl)⟩
 have:=e1 b
 show p2 b+(p1 b+q b)<=_
 omega
theorem SR.snocT{D:Addr}{ys:List AV}{c:AV}(h:SR K H0 σ ρ (v::.ref D::ts) (.av c::.av (.own ys)::as) H)(hS:Stb as):∃ vs,H D=some (.lst vs)/\vs.length=ys.length/\SR K H0 σ ρ (.ref D::ts) (.av (.own (ys++[c]))::as) (upd H D (.lst (vs++[v]))):=by
 obtain⟨⟨p,q,h1,h2,h3,h4⟩,s⟩:=h
 cases h2 with
 | @cons _ _ _ _ qa qb _ r rs eq =>
 cases r with
 | av r =>
 cases rs with
 | @cons _ _ _ _ qc qd _ r2 rs eq2 =>
 cases r2 with
 | av r2 =>
 cases r2 with
 | @own l vs _ p3 _ hl hr ep =>
  refine⟨vs,hl,hr.len,?_⟩
  have hpl:qc D=1+p3 D:=by have:=ep D;simpa using this
  have ne:∀ b u,p b+q b=0->H b=some u->b≠D:=λb u z _ y=>by subst y;have:=eq b;have:=eq2 b;omega
  have m0:Same (hid H p q) (hid (upd H D (.lst (vs++[v]))) p q):=ZcP λb u z w=>⟨z,ne b u z w⟩
  have k1:∀ b o,0<p b+qa b+qd b+p3 b->H b=some o->upd H D (.lst (vs++[v])) b=some o:=λb o z w=>by
   rw[Zah (λy=>by subst y;have:=h3 b;have:=eq b;have:=eq2 b;omega)];exact w
  have s2:Same H0 (upd H D (.lst (vs++[v]))):=s.updF (h4 D (by have:=eq D;have:=eq2 D;omega))
  refine⟨⟨p,λb=>((if b=D then 1 else 0)+(p3 b+qa b))+qd b,?_,.cons (.av (.own Zak (RAs.snoc (r.mono ?_ λb o z=>k1 b o (by omega)) (hr.mono ?_ λb o z=>k1 b o (by omega))) λ_=>rfl)) (rs.monoS ?_ hS λb o z=>k1 b o (by omega)) (λ_=>rfl),?_,?_⟩,s2⟩
  all_goals first
   | (refine h1.mono (m0.trans (hid_more λb z=>?_)) λb o z=>k1 b o (by omega))
   | (refine m0.trans (hid_more λb z=>?_))
   | intro b
  all_goals (try (intro z))
  all_goals (have e5:=eq b;have e6:=eq2 b;have e7:=ep b;have e8:=h3 b)
  all_goals first
   | (show p b+(((if b=D then 1 else 0)+(p3 b+qa b))+qd b)=0;omega)
   | (show p b+(((if b=D then 1 else 0)+(p3 b+qa b))+qd b)<=1;omega)
   | (refine h4 b ?_;have z':0<p b+(((if b=D then 1 else 0)+(p3 b+qa b))+qd b):=z;omega)
end
section
variable {K:W.Frag}{E:FK}{X:Exc->Sl->Prop}{ρ:Sl}{DV:VEnds}{te:TE}{i:Int}{n:Nat}{a b:TV}
theorem Zck{xs:List AV}(hi:ρ[n]?=some (some (.own xs)))(h:Ev K E X te ρ λa=>∃ a',a.sto=some a'/\xs.length<=1000000/\DV.nx (ρ.set n (some (.own (xs++[a']))))):Sv K E X (tDrop (tBM K "list" rAppend (tVar n) (tCons te tNil))) ρ DV:=λH0 σ ts as H D st s x f=>by
 obtain⟨l,vs,e1,e2,e3,_⟩:=(s.push (x:=.none) λ_=>.non).write (xs':=xs) st hi
 refine⟨.ref l,e1,Zf2 e2 (h H0 σ ts as H _ s x λa ⟨a',e,hz,q⟩ v H' s'=>?_)⟩
 obtain⟨l',vs',e1',e2',e3',e4'⟩:=(s'.sto e).write (xs':=xs++[a']) st hi
 rw[e1] at e1'
 cases e1'
 refine⟨l,vs',v,rfl,rfl,e2',small6 (by omega),f.nx _ q _ _ (e4' _ λG H p q r1 r2=>⟨_,λ_=>Nat.le_refl _,RAs.snoc r2 r1⟩)⟩
theorem Zik{xs:List AV}(hi:ρ[n]?=some (some (.own xs)))(h:DV.nx (ρ.set n (some (.own xs.reverse)))):Sv K E X (tDrop (tBM0 K "list" rReverse (tVar n))) ρ DV:=λH0 σ ts as H D st s x f=>by
 obtain⟨l,vs,e1,e2,e3,e4⟩:=(s.push (x:=.none) λ_=>.non).write (xs':=xs.reverse) st hi
 refine⟨.ref l,e1,Zf2 e2 ⟨l,vs,rfl,rfl,e2,f.nx _ h _ _ (e4 _ λG H p q r1 r2=>?_)⟩⟩
 obtain⟨p',h1,h2⟩:=r1.rev
 exact⟨p',λb=>by have:=h1 b;omega,h2⟩
theorem Zmc{m:Nat}{xs ys:List AV}(hm:ρ[m]?=some (some (.own ys)))(hi:ρ[n]?=some (some (.own xs)))(hne:n≠m)(hz:xs.length<=1000000)(q:DV.nx ((ρ.set m none).set n (some (.own (xs++[.own ys]))))):Sv K E X (tDrop (tBM K "list" rAppend (tVar n) (tCons (tVar m) tNil))) ρ DV:=λH0 σ ts as H D st s x f=>by
 obtain⟨w,g1,s'⟩:=s.take hm
 obtain⟨l,vs,e1,e2,e3,e4⟩:=s'.write (i:=n) (xs:=xs) (xs':=xs++[.own ys]) st (by rw[List.getElem?_set_ne (Ne.symm hne)];exact hi)
 exact⟨.ref l,e1,Zf2 e2 ⟨w,g1,l,vs,w,rfl,rfl,e2,small6 (by omega),f.nx _ q _ _ (e4 _ λG H p q r1 r2=>⟨_,λ_=>Nat.le_refl _,RAs.snoc r2 r1⟩)⟩⟩
theorem Zfc{xs:List AV}(hm:ρ[n]?=some (some (.own xs)))(q:DV.rt (.av (.own xs))):Sv K E X (tRet (tVar n)) ρ DV:=λH0 σ ts as H D st s x f=>by
 obtain⟨w,g1,s'⟩:=s.take hm
 exact⟨w,g1,f.rt _ q _ _ _ _ s'⟩
end
end VL
end
section
namespace VL
open PySem PySem.Spec L2
variable [Tabs]
section
variable {K:W.Frag}{H H' H0:Hp}{σ:St}{ρ:Sl}{ts:List V}{as:List TV}{x y:V}{a b:TV}
theorem SR.turn{J:It}{u:V}{z:PyData}{n i:Nat}{f:Nat->PyData}(s:SR K H0 σ ρ (u::ts) (.av (.d z)::as) H)(ok:ItOk K J u z n f)(hi:i<n):J.go i H/\∀ x H',J.yld i H x H'->SR K H0 σ ρ (x::u::ts) (.av (.d (f i))::.av (.d z)::as) H':=by
 have s0:=s
 obtain⟨⟨p,q,h1,h2,h3,h4⟩,e⟩:=s
 have hL:=SR.lsts h1 h2
 cases h2 with
 | @cons _ _ _ _ q1 q2 _ r rs eq =>
 cases r with
 | av r =>
 cases r with
 | d rp w =>
  obtain⟨g1,_⟩:=ok _ H Zbg rp
  obtain⟨g2,g3⟩:=g1 i hi
  refine⟨g2,λx H' y=>?_⟩
  obtain⟨e1,e2⟩:=g3 x H' y
  have s1:=s0.ext e1
  obtain⟨⟨p',q',k1,k2,k3,k4⟩,e'⟩:=s1
  have m:Same (hid H p q) (hid H' p q):=ZcC e1
  refine⟨⟨p,q,h1.mono m (λb o _=>e1 b o),.cons (.av (.d (p:=λ_=>0) (e2 (hid H' p q) m λb o hb hn=>?_) λ_=>rfl)) (.cons (.av (.d (rp.same m) w)) (rs.mono m e1) eq) (λb=>by simp),h3,h4⟩,e'⟩
  unfold hid
  rw[if_pos]
  ·exact hb
  ·rcases Nat.eq_zero_or_pos (p b+q b) with c|c
   ·exact c
   ·obtain⟨vs,y,mu⟩:=hL b c;rw[hn] at y;cases y
theorem SR.halt{J:It}{u:V}{z:PyData}{n i:Nat}{f:Nat->PyData}(s:SR K H0 σ ρ (u::ts) (a::as) H)(na:NR a)(ez:a.data=z)(ok:ItOk K J u z n f)(hi:n<=i):J.stop i H:=(ok H H (.refl H) (ez▸s.top na)).2 i hi
end
section
variable {K:W.Frag}{E:FK}{X:Exc->Sl->Prop}{ρ:Sl}{Q:TV->Prop}{DV:VEnds}{tb te:TE}{i j:Int}{n:Nat}{r:R2}{t u:TS}{a b:TV}
theorem SR.frzV{H0 H:Hp}{σ:St}{ts:List V}{as:List TV}{v:V}(s:SR K H0 σ ρ (v::ts) (a::as) H):SR K H0 σ ρ (v::ts) (a.frz::as) H:=by
 cases a with
 | av a=>exact s.frzT
 | bor x=>exact s
 | raw v=>exact s
theorem TV.frz_data(a:TV):a.frz.data=a.data:=by cases a<;>rfl
theorem TV.frz_nr(h:NR a):NR a.frz:=by
 cases a with
 | av a=>exact NR.av
 | bor x=>exact NR.bor
 | raw v=>exact absurd rfl (h v)
theorem ZkE{lo:Int}{m:Nat}:ItOk K (Itr lo m) .non .none m λi=>.int (lo+i):=λG H sm rp =>
 ⟨λi hi=>⟨hi,λx H' ⟨e1,e2⟩=>by subst e1 e2;exact⟨.refl _,λ_ _ _=>.int _⟩⟩,λi hi=>hi⟩
theorem Zmd{H0 H:Hp}{σ:St}{ts:List V}{as:List TV}{vs:List V}(s:SR K H0 σ ρ (vs++ts) ([.av (.d (.int i))]++as) H)(hl:vs.length=1):vs=[.int i]/\SR K H0 σ ρ ts as H:=by
 match vs,hl with
 | [v],_ =>
  have e:=SR.top_d (v:=v) s
  rw[e.int_inv]
  exact⟨rfl,SR.pop (v:=v) s⟩
theorem Zhq{H0 H:Hp}{σ:St}{ts:List V}{as:List TV}{vs:List V}(s:SR K H0 σ ρ (vs++ts) ([.av (.d (.int i)),.av (.d (.int j))]++as) H)(hl:vs.length=2):vs=[.int i,.int j]/\SR K H0 σ ρ ts as H:=by
 match vs,hl with
 | [v,w],_ =>
  have s':SR K H0 σ ρ (v::w::ts) (.av (.d (.int i))::.av (.d (.int j))::as) H:=s
  have e1:=s'.top_d.int_inv
  have e2:=s'.pop.top_d.int_inv
  subst e1 e2
  exact⟨rfl,s'.pop.pop⟩
theorem Zi4{A:TA}{P:Nat->(Nat->PyData)->TV->Prop}(h:Ea K E X A ρ λbs=>∃ j,bs=[.av (.d (.int j))]/\(-(2 ^ 62)<=j/\j<2 ^ 62)/\P j.toNat (λi=>.int (0+(i:Int))) (.av (.d .none))):Iv K E X (iRng1 A) ρ P:=λH0 σ ts as H R s x k =>
 h H0 σ ts as H _ s x λbs ⟨j,e,hj,q⟩ vs H' s' hl=>by
  subst e
  obtain⟨rfl,s2⟩:=Zmd s' hl
  exact⟨j,rfl,hj.1,hj.2,k _ _ _ q .non _ H' (λ_ z=>nomatch z) (s2.push λ_=>.non) ZkE⟩
theorem Zhr{wi:TI}{g:TG}{tb:TS}(h:Iv K E X wi ρ λn f hd=>(∃ z,hd=.av (.d z))/\∃ Iv:Nat->Sl->Prop,Iv 0 ρ/\(∀ i ρ',i<n->Iv i ρ'->Gv K g (f i) ρ' λρ''=>Sv K E X tb ρ'' { nx:=Iv (i+1),ct:=Iv (i+1),bk:=DV.nx,rt:=DV.rt })/\∀ ρ',Iv n ρ'->DV.nx ρ'):Sv K E X (tFor wi g tb) ρ DV:=λH0 σ ts as H D st s x f =>
 h H0 σ ts as H _ s x λn ft hd ⟨⟨z,ez⟩,Iw,i0,turn,fin⟩ u J H' _ s' ok=>by
  subst ez
  refine⟨λi m σ' H'=>m=n-i/\i<=n/\∃ ρ',Iw i ρ'/\SR K H0 σ' ρ' (u::ts) (.av (.d z)::as) H',⟨n,by simp,Nat.zero_le _,ρ,i0,s'⟩,?_⟩
  rintro i m σ1 H1 ⟨rfl,hi,ρ1,i1,s1⟩
  by_cases hlt:i<n
  ·obtain⟨g1,g2⟩:=s1.turn ok hlt
   refine .inr ⟨g1,λσ2 H2=>∃ ρ',Iw (i+1) ρ'/\SR K H0 σ2 ρ' (u::ts) (.av (.d z)::as) H2,λσ2 H2 p=>⟨n-(i+1),by omega,rfl,hlt,p⟩,λy H2 hy=>?_⟩
   refine turn i ρ1 hlt i1 H0 σ1 _ _ H2 y _ (g2 y H2 hy) λρ2 sv σ3 H3 s3=>?_
   exact sv H0 σ3 _ _ H3 _ (Stb.cons st) s3 x ⟨λρ4 q σ4 H4 s4=>⟨ρ4,q,s4⟩,λρ4 q σ4 H4 s4=>f.nx ρ4 q σ4 H4 s4.pop,λρ4 q σ4 H4 s4=>⟨ρ4,q,s4⟩,λa q v σ4 ρ4 H4 s4=>f.rt a q v σ4 ρ4 H4 s4.swap.pop⟩
  ·have e:i=n:=by omega
   subst e
   exact .inl ⟨s1.halt NR.av rfl ok (Nat.le_refl _),f.nx _ (fin _ i1) _ _ s1.pop⟩
theorem ZkF{tc:TT}{tb:TS}(Iv:Nat->Sl->Prop)(m0:Nat)(i0:Iv m0 ρ)
  (h:∀ m ρ',Iv m ρ'->Tv K E X tc ρ' λb=>if b=true then Sv K E X tb ρ' { nx:=λρ2=>∃ m',m' < m/\Iv m' ρ2,ct:=λρ2=>∃ m',m' < m/\Iv m' ρ2,bk:=DV.nx,rt:=DV.rt } else DV.nx ρ'):Sv K E X (tWhile tc tb) ρ DV:=λH0 σ ts as H D st s x f=>by
 refine⟨λm σ' H'=>∃ ρ',Iv m ρ'/\SR K H0 σ' ρ' ts as H',⟨m0,ρ,i0,s⟩,?_⟩
 rintro m σ1 H1 ⟨ρ1,i1,s1⟩
 refine h m ρ1 i1 H0 σ1 ts as H1 _ s1 x λb q H2 s2=>?_
 cases b with
 | true =>
  rw[if_pos rfl] at q ⊢
  exact⟨λσ' H'=>∃ m',m' < m/\∃ ρ',Iv m' ρ'/\SR K H0 σ' ρ' ts as H',λσ' H' ⟨m',l,z⟩=>⟨m',l,z⟩,q H0 σ1 ts as H2 _ st s2 x ⟨λρ4 ⟨m',l,z⟩ σ4 H4 s4=>⟨m',l,ρ4,z,s4⟩,λρ4 q σ4 H4 s4=>f.nx ρ4 q σ4 H4 s4,λρ4 ⟨m',l,z⟩ σ4 H4 s4=>⟨m',l,ρ4,z,s4⟩,f.rt⟩⟩
 | false =>
  rw[if_neg Bool.false_ne_true] at q ⊢
  exact f.nx _ q _ _ s2
def AV.sh:AV->AV
 | .obj φ=>.obj φ
 | .d x=>.d x
 | .own xs=>.d (.list (AV.datas xs))
 | .tup xs=>.d (.tuple (AV.datas xs))
 | .dic kvs=>.d (.dict kvs)
def capV(cap:List (Option Nat))(ρ:Sl):Sl:=cap.map λo=>match o with
 | none=>none
 | some j=>(ρ[j]?).join.map AV.sh
theorem SR.at{H0 H:Hp}{σ:St}{ts:List V}{as:List TV}{j:Nat}{c:AV}(s:SR K H0 σ ρ ts as H)(h:ρ[j]?=some (some c)):∃ v,σ[j]?=some (some v)/\Rep K H v c.data:=by
 obtain⟨v,e,_,s'⟩:=s.var h
 exact⟨v,e,s'.top (a:=.bor c.data) NR.bor⟩
theorem SR.atO{H0 H:Hp}{σ:St}{ts:List V}{as:List TV}{j:Nat}{φ:V->Hp->Prop}(s:SR K H0 σ ρ ts as H)(h:ρ[j]?=some (some (.obj φ))):∃ v,σ[j]?=some (some v)/\φ v H/\∀ G1 G2:Hp,Same G1 G2->φ v G1->φ v G2:=by
 obtain⟨⟨p,q,h1,h2,h3,h4⟩,e⟩:=s
 obtain⟨p1,p2,v,e1,e2,e3,e4⟩:=h1.frz h λ_ _ _ _=>trivial
 cases e3 with
 | obj f m z=>exact⟨v,e2,m _ _ Zbg f,m⟩
theorem RSl.cap{H0 H G H2:Hp}{σ:St}{ts:List V}{as:List TV}(s:SR K H0 σ ρ ts as H)(m:Same H G):∀ cap:List (Option Nat),RSl K G H2 (capS cap σ) (capV cap ρ) λ_=>0
 | []=>.nil λ_=>rfl
 | none::cap=>.no (RSl.cap s m cap)
 | some j::cap=>by
  cases e:(ρ[j]?).join with
  | none =>
   have:capV (some j::cap) ρ=none::capV cap ρ:=by simp[capV,e]
   rw[this]
   exact .no (RSl.cap s m cap)
  | some c =>
   have ej:ρ[j]?=some (some c):=by
    cases z:ρ[j]? with
    | none=>rw[z] at e;cases e
    | some o=>rw[z] at e;cases o with
     | none=>cases e
     | some c'=>cases e;rfl
   have ec:capV (some j::cap) ρ=some c.sh::capV cap ρ:=by simp[capV,e]
   rw[ec]
   cases c with
   | obj φ =>
    obtain⟨v,e1,e2,e3⟩:=s.atO ej
    have:capS (some j::cap) σ=some v::capS cap σ:=by simp[capS,e1]
    rw[this]
    exact .so (.obj (e3 _ _ m e2) e3 λ_=>rfl) (RSl.cap s m cap) λ_=>rfl
   | _ =>
    obtain⟨v,e1,e2⟩:=s.at ej
    have:capS (some j::cap) σ=some v::capS cap σ:=by simp[capS,e1]
    rw[this]
    exact .so (.d (e2.same m) λ_=>rfl) (RSl.cap s m cap) λ_=>rfl
def Got(c:AV)(a:TV):Prop:=(c.clean=true/\a=.av c)\/a=.bor c.data
theorem Got.own{c:AV}(h:c.clean=true):Got c (.av c):=.inl ⟨h,rfl⟩
theorem Got.br{c:AV}:Got c (.bor c.data):=.inr rfl
theorem SR.gotG{H0 H H':Hp}{σ:St}{ts:List V}{as:List TV}{v:V}{c:AV}(h:SR K H0 σ ρ ts as H)(r:Rs K H H' v c)(g:Got c a):SR K H0 σ ρ (v::ts) (a::as) H':=by
 rcases g with⟨hc,rfl⟩|rfl
 ·exact h.got r hc
 ·exact h.gotB r
theorem SR.rs{H0 H:Hp}{σ:St}{ts:List V}{as:List TV}{v:V}{c:AV}(h:SR K H0 σ ρ (v::ts) (.av c::as) H):Rs K H0 H v c:=by
 obtain⟨⟨p,q,h1,h2,h3,h4⟩,e⟩:=h
 cases h2 with
 | @cons _ _ _ _ q1 q2 _ r rs eq =>
 cases r with
 | av r=>exact⟨e,q1,λb=>by have:=eq b;have:=h3 b;omega,λb z=>h4 b (by have:=eq b;omega),r.mono (hid_more λb z=>by have:=eq b;simp;omega) λ_ _ _ z=>z⟩
theorem Zi5{cap:List (Option Nat)}{wi:TI}{g:TG}{tt:TT}(h:Iv K E X wi ρ λn f _=>n<=1000000/\∃ y:Nat->Option AV,(∀ i,i<n->Gv K g (f i) (capV cap ρ) λρ'=>Wk ρ' (capV cap ρ)/\Tv K E NE tt ρ' λb=>if b=true then Ev K E NE te ρ' λa=>∃ c,y i=some c/\a.sto=some c else y i=none) /\
  ∃ a,Got (.own ((List.range n).filterMap y)) a/\Q a):Ev K E X (tComp cap wi g tt te) ρ Q:=λH0 σ ts as H QV s x k =>
 h H0 σ ts as H _ s x λn f hd ⟨hn,y,turn,a,hg,q⟩ u J H1 nr s1 ok D hD=>by
  have xo:XOk K E NE H1:=XOk.ne (x.t.same s1.same)
  have sD:Same H1 (upd H1 D (.lst [])):=Zba hD
  have st:Stb [TV.av (.d hd.data)]:=Stb.cons Stb.nil
  have start:SR K H1 (capS cap σ) (capV cap ρ) [.ref D,u] [.av (.own []),.av (.d hd.data)] (upd H1 D (.lst [])):=by
   have m:Same H1 (hid (upd H1 D (.lst [])) (λ_=>0) λb=>if b=D then 1 else 0):=λb o e=>by
    have hb:b≠D:=Zan e hD
    unfold hid
    simp[hb]
    rw[Zah hb]
    exact e
   refine⟨⟨λ_=>0,λb=>if b=D then 1 else 0,RSl.cap s1 m cap,.cons (.av (.own Zak (.nil (p:=λ_=>0) λ_=>rfl) (q:=λb=>if b=D then 1 else 0) λb=>by simp)) (.cons (.av (.d (p:=λ_=>0) ((s1.top nr).same m) λ_=>rfl)) (.nil (p:=λ_=>0) λ_=>rfl) (r:=λ_=>0) λb=>by simp) (λb=>by simp),λb=>by simp;split<;>omega,λb z=>?_⟩,sD⟩
   by_cases hb:b=D
   ·rw[hb];exact hD
   ·simp[hb] at z
  refine⟨λi m σ' H'=>m=n-i/\i<=n/\SR K H1 σ' (capV cap ρ) [.ref D,u] [.av (.own ((List.range i).filterMap y)),.av (.d hd.data)] H',⟨n,by simp,Nat.zero_le _,start⟩,?_⟩
  rintro i m σ2 H2 ⟨rfl,hi,s2⟩
  by_cases hlt:i<n
  ·obtain⟨g1,g2⟩:=s2.swap.turn ok hlt
   refine .inr ⟨g1,λσ' H'=>SR K H1 σ' (capV cap ρ) [.ref D,u] [.av (.own ((List.range (i+1)).filterMap y)),.av (.d hd.data)] H',λσ' H' p=>⟨n-(i+1),by omega,rfl,hlt,p⟩,λw H3 hw=>?_⟩
   have s3:=g2 w H3 hw
   refine turn i hlt H1 σ2 _ _ H3 w _ s3 λρ4 ⟨wk,tv⟩ σ4 H4 s4=>?_
   refine tv H1 σ4 _ _ H4 _ s4 xo λb qb H5 s5=>?_
   cases b with
   | true =>
    rw[if_pos rfl] at qb ⊢
    refine qb H1 σ4 _ _ H5 _ s5 xo λa ⟨c,e1,e2⟩ z H6 s6=>?_
    have s7:=(s6.sto e2)
    have s8:SR K H1 σ4 ρ4 [z,.ref D,u] [.av c,.av (.own ((List.range i).filterMap y)),.av (.d hd.data)] H6:=by
     obtain⟨⟨p,q,k1,k2,k3,k4⟩,e⟩:=s7
     refine⟨⟨p,q,k1,?_,k3,k4⟩,e⟩
     cases k2 with
     | cons r rs eq=>exact .cons r rs.swap eq
    obtain⟨vs,h1,h2,h3⟩:=s8.snocT st
    refine⟨vs,h1,small6 ?_,?_⟩
    ·rw[h2]
     exact Nat.le_trans (List.length_filterMap_le _ _) (by rw[List.length_range];omega)
    ·have:=wk _ _ _ _ _ _ h3
     rw[List.range_succ,List.filterMap_append]
     simpa [e1] using this
   | false =>
    rw[if_neg Bool.false_ne_true] at qb ⊢
    have:=wk _ _ _ _ _ _ s5.swap
    rw[List.range_succ,List.filterMap_append]
    simpa [qb] using this
  ·have e:i=n:=by omega
   subst e
   exact .inl ⟨s2.swap.halt NR.av rfl ok (Nat.le_refl _),k _ q _ _ (s1.pop.gotG s2.rs hg)⟩
def spV(K:W.Frag)(S:List PyData->AV->Prop)(SX:List PyData->Exc->Prop):Sp:=λvs H Q E=>TabsIn H/\∃ ds,Reps K H vs ds /\
 ((∃ c,S ds c/\∀ v H',Rs K H H' v c->Q v H')\/∃ e,SX ds e/\∀ c d H',Same H H'->XRep K H' e c d->E c d H')
theorem SR.reps{H0 H:Hp}{σ:St}:∀ {vs:List V} {bs:List TV} {ts:List V} {as:List TV},(∀ b∈bs,NR b)->vs.length=bs.length->SR K H0 σ ρ (vs++ts) (bs++as) H->Reps K H vs (bs.map TV.data)/\SR K H0 σ ρ ts as H
 | [],[],_,_,_,_,s=>⟨.nil,s⟩
 | v::vs,b::bs,ts,as,hb,e,s=>by
  have s':SR K H0 σ ρ (v::(vs++ts)) (b::(bs++as)) H:=s
  obtain⟨h1,h2⟩:=SR.reps (λc hc=>hb c (.tail _ hc)) (by simpa using e) s'.pop
  exact⟨.cons (s'.top (hb b (.head _))) h1,h2⟩
inductive NRs:List TV->Prop
 | nil:NRs []
 | cons {b:TV} {bs:List TV}:NR b->NRs bs->NRs (b::bs)
theorem NRs.all{bs:List TV}(h:NRs bs):∀ b∈bs,NR b:=by
 induction h with
 | nil=>exact λ_ z=>nomatch z
 | cons h _ ih=>intro b hb;rcases List.mem_cons.mp hb with e|e;exact e▸h;exact ih b e
def dvD:V->Option PyData
 | .int i=>some (.int i)
 | .bl b=>some (.bool b)
 | .str x=>some (.str x)
 | .non=>some .none
 | _=>none
theorem Zme{v:V}{d:PyData}{H:Hp}(h:dvD v=some d):Rep K H v d:=by
 cases v<;>simp[dvD] at h<;>subst h<;>constructor
inductive DvDs:List V->List PyData->Prop
 | nil:DvDs [] []
 | cons {v:V} {d:PyData} {vs:List V} {ds:List PyData}:dvD v=some d->DvDs vs ds->DvDs (v::vs) (d::ds)
theorem DvDs.reps{vs:List V}{ds:List PyData}{H:Hp}(h:DvDs vs ds):Reps K H vs ds:=by
 induction h with
 | nil=>exact .nil
 | cons h _ ih=>exact .cons (Zme h) ih
def Res(a:TV)(c:AV):Prop:=a=.av c\/(NR a/\c=.d a.data)
theorem SR.start{N:List Str}{vs:List V}{ds:List PyData}{H:Hp}(h:Reps K H vs ds):SR K H (start N vs) (ds.map (λd=>some (.d d))++List.replicate (N.length-ds.length) none) [] [] H:=by
 have hl:=h.length
 refine⟨⟨λ_=>0,λ_=>0,?_,.nil λ_=>rfl,λ_=>by simp,λb z=>by simp at z⟩,.refl H⟩
 have hid0:hid H (λ_=>0) (λ_=>0)=H:=by funext b;simp[hid]
 rw[hid0]
 unfold L2.start
 rw[hl]
 clear hl
 generalize N.length-ds.length=m
 induction h using Reps.rec (motive_1:=λ_ _ _=>True) with
 | nil =>
  simp only[List.map_nil,List.nil_append]
  induction m with
  | zero=>exact .nil λ_=>rfl
  | succ m ih=>exact .no ih
 | cons r rs _ ih=>exact .so (.d r λ_=>rfl) ih λ_=>rfl
 | _=>trivial
theorem Zmf{t:TS}{N:List Str}{S:List PyData->AV->Prop}{SX:List PyData->Exc->Prop}{vs:List V}{H:Hp}{Qv:VK}{E:XK}(sp:spV K S SX vs H Qv E)
  (h:∀ ds,(∀ c,S ds c->Sv K (toF E) NE t (ds.map (λd=>some (.d d))++List.replicate (N.length-ds.length) none) { nx:=λ_=>c=.d .none,rt:=λa=>Res a c }) /\
   ∀ e,SX ds e->Sv K (toF E) (λe' _=>e'=e) t (ds.map (λd=>some (.d d))++List.replicate (N.length-ds.length) none) { nx:=λ_=>False,rt:=λ_=>False }) :
  t { nx:=λ_ H'=>Qv .non H',rt:=Qv } (L2.start N vs) H:=by
 obtain⟨tb,ds,rp,q⟩:=sp
 rcases q with⟨c,h1,h2⟩|⟨e,h1,h2⟩
 ·refine (h ds).1 c h1 H _ [] [] H _ Stb.nil (SR.start rp) (XOk.ne tb) ⟨λρ q σ' H' s'=>?_,λ_ z=>z.elim,λ_ z=>z.elim,λa q v σ' ρ' H' s'=>?_⟩
  ·rw[show c=.d .none from q] at h2
   exact h2 _ _ (SR.rs (v:=.non) (s'.push λ_=>.non))
  ·rcases q with rfl|⟨nr,rfl⟩
   ·exact h2 _ _ s'.rs
   ·refine h2 _ _ ⟨s'.same,λ_=>0,λ_=>by simp,λb z=>by simp at z,.d ?_ λ_=>rfl⟩
    have hid0:hid H' (λ_=>0) (λ_=>0)=H':=by funext b;simp[hid]
    rw[hid0]
    exact s'.top nr
 ·exact (h ds).2 e h1 H _ [] [] H _ Stb.nil (SR.start rp) ⟨λe' ρ' z c d σ' H2 sm xr=>by subst z;exact h2 c d H2 sm.same xr,tb⟩ ⟨λ_ z=>z.elim,λ_ z=>z.elim,λ_ z=>z.elim,λ_ z=>z.elim⟩
end
end VL
end
section
namespace L2
open PySem PySem.Spec PyProof.Rows
section
variable {X:Cx}{K:W.Frag}
def rCatS(K:W.Frag):R2:=λx y H Q=>∃ l b xs zs,x=.ref l/\y=.ref b/\SqL K H l xs/\SqL K H b zs/\xs.length+zs.length<=sizeLine/\∀ p,H p=none->Q (.ref p) (upd H p (.lst (xs++zs)))
theorem Zmg(hK:X.K=K):OpR X (binaryOp .Add) (rCatS K):=by
 subst hK
 intro pins s σ H x y v u Q I rx ry h
 obtain⟨l,b,xs,zs,rfl,rfl,hx,hy,hz,q⟩:=h
 cases rx
 cases ry
 obtain⟨i1,r1,p1,_⟩:=I.list hx
 obtain⟨i2,r2,p2,_⟩:=I.list hy
 obtain⟨⟨c1,d1,t1,s1⟩,n1,g1,e1,f1,k1⟩:=p1
 obtain⟨⟨c2,d2,t2,s2⟩,n2,g2,e2,f2,k2⟩:=p2
 cases e1;cases f1;cases k1;cases e2;cases f2;cases k2
 have l1:=r1.length
 have l2:=r2.length
 have ea:i1.toArray++i2.toArray=(i1++i2).toArray:=by simp
 refine concat_meets ⟨_,g1,rfl⟩ ⟨_,g2,rfl⟩ noFill_list_add seq_list_add PySem.F.slot_list_add PySem.F.entry_list_add (PySem.F.args_list_add_2 _ _) (list_addW l b i1.toArray i2.toArray n1 n2 _ _ s1 s2 (by rw[List.size_toArray,List.size_toArray];omega)) ⟨g1,g2,?_⟩
 rw[ea]
 exact⟨.ref _,_,I.lnew (t':=s.toks) (r1.append r2) (by rw[List.length_append];exact hz),rfl,q _ I.fresh⟩
end
end L2
end
section
namespace VL
open PySem PySem.Spec L2
variable [Tabs]
theorem len1{α:Type}{vs:List α}(h:vs.length=1):∃ v,vs=[v]:=List.length_eq_one_iff.mp h
theorem len2{α:Type}{vs:List α}(h:vs.length=2):∃ v w,vs=[v,w]:=by
 cases vs with
 | nil=>cases h
 | cons v vs =>
  obtain⟨w,e⟩:=len1 (Nat.succ.inj h)
  exact⟨v,w,by rw[e]⟩
section
variable {K:W.Frag}{E:FK}{X:Exc->Sl->Prop}{ρ:Sl}{Q:TV->Prop}{r:R2}{a b:TV}{H0 H:Hp}{σ:St}{ts:List V}{as:List TV}{v:V}
theorem ZbV{vs:List V}(s:SR K H0 σ ρ (vs++ts) ([a]++as) H)(hl:vs.length=1):∃ v,vs=[v]/\SR K H0 σ ρ (v::ts) (a::as) H:=by
 obtain⟨v,rfl⟩:=len1 hl
 exact⟨v,rfl,s⟩
theorem Zmh{ds:List PyData}(ha:a.data=.list ds)(q:Q (.av (.d (.int ds.length))))(na:NR a:=by first|exact NR.av|exact NR.bor):Bi K E X (rLen K) [a] Q:=λH0 σ ρ ts as H vs QV s hl _ k=>by
 obtain⟨v,rfl,s⟩:=ZbV s hl
 exact Zkz (ha▸s.top na) (k _ q _ H (s.pop.int _))
theorem Zmi{ds:List PyData}(ha:a.data=.tuple ds)(q:Q (.av (.d (.int ds.length))))(na:NR a:=by first|exact NR.av|exact NR.bor):Bi K E X (rLen K) [a] Q:=λH0 σ ρ ts as H vs QV s hl _ k=>by
 obtain⟨v,rfl,s⟩:=ZbV s hl
 exact ZkA (ha▸s.top na) (k _ q _ H (s.pop.int _))
theorem ZgK(ds:List PyData):AV.datas (ds.map AV.d)=ds:=by
 induction ds with
 | nil=>rfl
 | cons d ds ih=>rw[List.map_cons,AV.datas,ih];rfl
theorem Zi6{ds:List PyData}(h:noLsts ds=true):∀ d∈ds,noLst d=true:=by
 induction ds with
 | nil=>exact λ_ z=>nomatch z
 | cons x ds ih =>
  simp only[noLsts,Bool.and_eq_true] at h
  intro d hd
  rcases List.mem_cons.mp hd with e|e
  ·exact e▸h.1
  ·exact ih h.2 d e
theorem ZkG{ds:List PyData}(h:∀ d∈ds,noLst d=true):noLsts ds=true:=by
 induction ds with
 | nil=>rfl
 | cons x ds ih=>simp only[noLsts,Bool.and_eq_true];exact⟨h x (.head _),ih λd hd=>h d (.tail _ hd)⟩
theorem SR.items{es:List PyData}(s:SR K H0 σ ρ (v::ts) (a::as) H)(h:a=.av (.d a.data)\/noLsts es=true)(P:List V->Prop)(hx:∀ G,Rep K G v a.data->Same G H->∃ xs,P xs/\Reps K G xs es)(na:NR a):∃ xs,P xs/\xs.length=es.length/\SR K H0 σ ρ (xs++ts) ((es.map AV.d).map TV.av++as) H:=by
 have fin:∀ {p q:Fp} {xs:List V} {es:List PyData},Reps K (hid H p q) xs es->RTs K (hid H p q) H ts as q->RTs K (hid H p q) H (xs++ts) ((es.map AV.d).map TV.av++as) q:=by
  intro p q xs es r rt
  induction r using Reps.rec (motive_1:=λ_ _ _=>True) with
  | nil=>exact rt
  | cons r rs _ ih=>exact .cons (.av (.d (p:=λ_=>0) r λ_=>rfl)) ih λb=>by simp
  | _=>trivial
 rcases h with e|hn
 ·rw[e] at s
  obtain⟨⟨p,q,h1,h2,h3,h4⟩,e'⟩:=s
  cases h2 with
  | @cons _ _ _ _ q1 q2 _ r rs z=>cases r with
   | av r=>cases r with
    | d rp w =>
     obtain⟨xs,px,this⟩:=hx _ rp Zbg
     have eh:hid H p q=hid H p q2:=ZnB λb=>by have:=z b;have:=w b;omega
     rw[eh] at this h1 rs
     exact⟨xs,px,this.length,⟨p,q2,h1,fin this rs,λb=>by have:=h3 b;have:=z b;omega,λb y=>h4 b (by have:=z b;omega)⟩,e'⟩
 ·obtain⟨xs,px,this⟩:=hx H (s.top na) (.refl H)
  obtain⟨⟨p,q,h1,h2,h3,h4⟩,e'⟩:=s.pop
  exact⟨xs,px,this.length,⟨p,q,h1,fin (Reps.hid (SR.lsts h1 h2) hn this) h2,h3,h4⟩,e'⟩
def Kp(a:TV)(es:List PyData):Prop:=a=.av (.d a.data)\/noLsts es=true
theorem Kp.d{x:PyData}{es:List PyData}:Kp (.av (.d x)) es:=.inl rfl
theorem Kp.flat{es:List PyData}(h:noLsts es=true):Kp a es:=.inr h
theorem Zbt{ds:List PyData}(ha:a.data=.list ds)(h:Kp a.frz ds)(q:Q (.av (.d (.tuple ds))))(na:NR a:=by first|exact NR.av|exact NR.bor):Bi K E X (rTpl K) [a] Q:=λH0 σ ρ ts as H vs QV s hl _ k=>by
 obtain⟨v,rfl,s⟩:=ZbV s hl
 obtain⟨xs,⟨l,e,h1⟩,h2,s'⟩:=s.frzV.items h (λxs=>∃ l,v=.ref l/\SqL K H l xs) (λG rp sm=>by
  rw[TV.frz_data,ha] at rp
  obtain⟨l,xs,e,h3,h4⟩:=rp.list_inv
  exact⟨xs,⟨l,e,sm.seq h3⟩,h4⟩) (TV.frz_nr na)
 refine⟨l,xs,by rw[e],.inl ⟨h1,λp hp=>k _ q _ _ ?_⟩⟩
 have:=SR.newT s' (by rw[List.length_map,h2]) hp
 rw[ZgK] at this
 exact this
theorem Zmj{ds es:List PyData}(ha:a.data=.list ds)(hb:b.data=.list es)(ka:Kp a.frz ds)(kb:Kp b.frz es)(hz:ds.length+es.length<=1000000)(q:Q (.av (.own ((ds++es).map AV.d))))(na:NR a:=by first|exact NR.av|exact NR.bor)(nb:NR b:=by first|exact NR.av|exact NR.bor):Op K E X (rCatS K) a b Q:=λH0 σ ρ ts as H x y QV s _ k=>by
 obtain⟨ys,⟨l2,e2,h2⟩,hl2,s2⟩:=s.frzV.items kb (λys=>∃ l,y=.ref l/\SqL K H l ys) (λG rp sm=>by
  rw[TV.frz_data,hb] at rp
  obtain⟨l,xs,e,h3,h4⟩:=rp.list_inv
  exact⟨xs,⟨l,e,sm.seq h3⟩,h4⟩) (TV.frz_nr nb)
 have s3:SR K H0 σ ρ (x::(ys++ts)) (a::((es.map AV.d).map TV.av++as)) H:=SR.rot (by rw[List.length_map,List.length_map,hl2]) s2
 obtain⟨xs,⟨l1,e1,h1⟩,hl1,s4⟩:=s3.frzV.items ka (λys=>∃ l,x=.ref l/\SqL K H l ys) (λG rp sm=>by
  rw[TV.frz_data,ha] at rp
  obtain⟨l,xs,e,h3,h4⟩:=rp.list_inv
  exact⟨xs,⟨l,e,sm.seq h3⟩,h4⟩) (TV.frz_nr na)
 refine⟨l1,l2,xs,ys,e1,e2,h1,h2,Nat.le_of_lt (small6 (by omega)),λp hp=>k _ q _ _ (SR.new (xs:=(ds++es).map AV.d) ?_ (by rw[List.length_append,List.length_map,List.length_append,hl1,hl2]) hp)⟩
 rw[List.append_assoc,List.map_append,List.map_append,List.append_assoc]
 exact s4
theorem Zmk{ds:List PyData}{k:Int}(hn:noLsts ds=true)(hk:-(2 ^ 63)<=k/\k<2 ^ 63)(hz:ds.length*k.toNat<=1000000)(q:Q (.av (.own ((List.replicate k.toNat ds).flatten.map AV.d)))):Op K E X rRep (.av (.own (ds.map AV.d))) (.av (.d (.int k))) Q:=λH0 σ ρ ts as H x y QV s _ kk=>by
 have ey:=s.top_d.int_inv
 subst ey
 have s1:=s.pop
 have rp:=s1.top (a:=.av (.own (ds.map AV.d))) NR.av
 have sP:=s1.pop
 obtain⟨⟨p,q',h1,h2,h3,h4⟩,e'⟩:=s1
 cases h2 with
 | cons r rs z=>cases r with
  | av r=>cases r with
   | @own l vs _ p3 _ hl hr ep =>
    have hv:Reps K H vs ds:=by have:=hr.rep Zbg;rwa [ZgK] at this
    have hrep:∀ m:Nat,Reps K H (List.replicate m vs).flatten (List.replicate m ds).flatten:=λm=>by
     induction m with
     | zero=>exact .nil
     | succ m ih=>rw[List.replicate_succ,List.replicate_succ,List.flatten_cons,List.flatten_cons];exact hv.append ih
    have hnr:∀ m:Nat,noLsts (List.replicate m ds).flatten=true:=λm=>ZkG λd hd=>by
     obtain⟨l,h5,h6⟩:=List.mem_flatten.mp hd
     rw[List.eq_of_mem_replicate h5] at h6
     exact Zi6 hn d h6
    refine⟨l,k,vs,rfl,rfl,hl,hk.1,hk.2,Nat.le_of_lt (small6 (by rw[hv.length];exact hz)),λp0 hp=>kk _ q _ _ (SR.new (xs:=(List.replicate k.toNat ds).flatten.map AV.d) ?_ (by rw[List.length_map,(hrep _).length]) hp)⟩
    obtain⟨⟨p,q',h1,h2,h3,h4⟩,e'⟩:=sP
    refine⟨⟨p,q',h1,?_,h3,h4⟩,e'⟩
    have hh:=Reps.hid (p:=p) (q:=q') (SR.lsts h1 h2) (hnr k.toNat) (hrep k.toNat)
    generalize (List.replicate k.toNat vs).flatten=ws at hh
    generalize (List.replicate k.toNat ds).flatten=es at hh
    clear q
    induction hh using Reps.rec (motive_1:=λ_ _ _=>True) with
    | nil=>exact h2
    | cons r rs _ ih=>exact .cons (.av (.d (p:=λ_=>0) r λ_=>rfl)) ih λb=>by simp
    | _=>trivial
end
end VL
end
section
namespace VL
open PySem PySem.Spec L2
variable [Tabs]
section
variable {K:W.Frag}{E:FK}{X:Exc->Sl->Prop}{Q:TV->Prop}{nx bk ct:Sl->Prop}{rt:TV->Prop}{tb te:TE}{x:PyData}{r:Sl}{a:AV}
theorem Zo5(q:Q (.av (.d x))):Ev K E X (tVar 0) (some (.d x)::r) Q:=Zcc rfl q
theorem gv_0{o:Option AV}{P:Sl->Prop}(h:P (some (.d x)::r)):Gv K (gName 0) x (o::r) P:=ZbY (n:=0) h (by simp only[List.length_cons];omega)
theorem wk_0{o:Option AV}:Wk (o::r) (none::r):=λ_ _ _ _ _ _ s=>s.drop (i:=0)
theorem Zo6{s0:Option AV}(q:Q (.av (.d x))):Ev K E X (tVar 1) (s0::some (.d x)::r) Q:=Zcc rfl q
theorem Zo7{s0:Option AV}{xs:List AV}(q:Q (.bor (.list (AV.datas xs)))):Ev K E X (tVar 1) (s0::some (.own xs)::r) Q:=Zcj rfl q
theorem Zo8{s0:Option AV}{o:Option AV}(h:Ev K E X te (s0::o::r) λa=>∃ a',Sto (s0::o::r) a a'/\nx (s0::some a'::r)):Sv K E X (tAsg te (gName 1)) (s0::o::r) ⟨nx,rt,bk,ct⟩:=ZcL (n:=1) h (by simp only[List.length_cons];omega)
theorem gv_1{s0:Option AV}{o:Option AV}{P:Sl->Prop}(h:P (s0::some (.d x)::r)):Gv K (gName 1) x (s0::o::r) P:=ZbY (n:=1) h (by simp only[List.length_cons];omega)
theorem ZnN{s0:Option AV}{xs:List AV}(q:rt (.av (.own xs))):Sv K E X (tRet (tVar 1)) (s0::some (.own xs)::r) ⟨nx,rt,bk,ct⟩:=Zfc rfl q
theorem Zo9{s0 s1:Option AV}(q:Q (.av (.d x))):Ev K E X (tVar 2) (s0::s1::some (.d x)::r) Q:=Zcc rfl q
theorem Zpa{s0 s1:Option AV}{o:Option AV}(h:Ev K E X te (s0::s1::o::r) λa=>∃ a',Sto (s0::s1::o::r) a a'/\nx (s0::s1::some a'::r)):Sv K E X (tAsg te (gName 2)) (s0::s1::o::r) ⟨nx,rt,bk,ct⟩:=ZcL (n:=2) h (by simp only[List.length_cons];omega)
theorem gv_2{s0 s1:Option AV}{o:Option AV}{P:Sl->Prop}(h:P (s0::s1::some (.d x)::r)):Gv K (gName 2) x (s0::s1::o::r) P:=ZbY (n:=2) h (by simp only[List.length_cons];omega)
theorem ZnO{s0 s1:Option AV}{xs:List AV}(h:Ev K E X te (s0::s1::some (.own xs)::r) λa=>∃ a',a.sto=some a'/\xs.length<=1000000/\nx (s0::s1::some (.own (xs++[a']))::r)):Sv K E X (tDrop (tBM K "list" rAppend (tVar 2) (tCons te tNil))) (s0::s1::some (.own xs)::r) ⟨nx,rt,bk,ct⟩:=Zck (n:=2) rfl h
theorem ZnP{s0 s1:Option AV}{xs:List AV}(q:rt (.av (.own xs))):Sv K E X (tRet (tVar 2)) (s0::s1::some (.own xs)::r) ⟨nx,rt,bk,ct⟩:=Zfc rfl q
theorem ZnQ{s0 s1:Option AV}{xs:List AV}(h:nx (s0::s1::some (.own xs.reverse)::r)):Sv K E X (tDrop (tBM0 K "list" rReverse (tVar 2))) (s0::s1::some (.own xs)::r) ⟨nx,rt,bk,ct⟩:=Zik (n:=2) rfl h
theorem Zpb{s0 s1 s2:Option AV}(q:Q (.av (.d x))):Ev K E X (tVar 3) (s0::s1::s2::some (.d x)::r) Q:=Zcc rfl q
theorem Zpc{s0 s1 s2:Option AV}{xs:List AV}(q:Q (.bor (.list (AV.datas xs)))):Ev K E X (tVar 3) (s0::s1::s2::some (.own xs)::r) Q:=Zcj rfl q
theorem Zpd{s0 s1 s2:Option AV}{o:Option AV}(h:Ev K E X te (s0::s1::s2::o::r) λa=>∃ a',Sto (s0::s1::s2::o::r) a a'/\nx (s0::s1::s2::some a'::r)):Sv K E X (tAsg te (gName 3)) (s0::s1::s2::o::r) ⟨nx,rt,bk,ct⟩:=ZcL (n:=3) h (by simp only[List.length_cons];omega)
theorem gv_3{s0 s1 s2:Option AV}{o:Option AV}{P:Sl->Prop}(h:P (s0::s1::s2::some (.d x)::r)):Gv K (gName 3) x (s0::s1::s2::o::r) P:=ZbY (n:=3) h (by simp only[List.length_cons];omega)
theorem ZnR{s0 s1 s2:Option AV}{xs:List AV}(q:rt (.av (.own xs))):Sv K E X (tRet (tVar 3)) (s0::s1::s2::some (.own xs)::r) ⟨nx,rt,bk,ct⟩:=Zfc rfl q
theorem Zpe{s0 s1 s2 s3:Option AV}(q:Q (.av (.d x))):Ev K E X (tVar 4) (s0::s1::s2::s3::some (.d x)::r) Q:=Zcc rfl q
theorem Zpf{s0 s1 s2 s3:Option AV}{xs:List AV}(q:Q (.bor (.list (AV.datas xs)))):Ev K E X (tVar 4) (s0::s1::s2::s3::some (.own xs)::r) Q:=Zcj rfl q
theorem Zpg{s0 s1 s2 s3:Option AV}{o:Option AV}(h:Ev K E X te (s0::s1::s2::s3::o::r) λa=>∃ a',Sto (s0::s1::s2::s3::o::r) a a'/\nx (s0::s1::s2::s3::some a'::r)):Sv K E X (tAsg te (gName 4)) (s0::s1::s2::s3::o::r) ⟨nx,rt,bk,ct⟩:=ZcL (n:=4) h (by simp only[List.length_cons];omega)
theorem gv_4{s0 s1 s2 s3:Option AV}{o:Option AV}{P:Sl->Prop}(h:P (s0::s1::s2::s3::some (.d x)::r)):Gv K (gName 4) x (s0::s1::s2::s3::o::r) P:=ZbY (n:=4) h (by simp only[List.length_cons];omega)
theorem ZnS{s0 s1 s2 s3:Option AV}{xs:List AV}(h:Ev K E X te (s0::s1::s2::s3::some (.own xs)::r) λa=>∃ a',a.sto=some a'/\xs.length<=1000000/\nx (s0::s1::s2::s3::some (.own (xs++[a']))::r)):Sv K E X (tDrop (tBM K "list" rAppend (tVar 4) (tCons te tNil))) (s0::s1::s2::s3::some (.own xs)::r) ⟨nx,rt,bk,ct⟩:=Zck (n:=4) rfl h
theorem ZnT{s0 s1 s2 s3:Option AV}{xs:List AV}(q:rt (.av (.own xs))):Sv K E X (tRet (tVar 4)) (s0::s1::s2::s3::some (.own xs)::r) ⟨nx,rt,bk,ct⟩:=Zfc rfl q
theorem Zph{s0 s1 s2 s3 s4:Option AV}(q:Q (.av (.d x))):Ev K E X (tVar 5) (s0::s1::s2::s3::s4::some (.d x)::r) Q:=Zcc rfl q
theorem Zpi{s0 s1 s2 s3 s4:Option AV}{xs:List AV}(q:Q (.bor (.list (AV.datas xs)))):Ev K E X (tVar 5) (s0::s1::s2::s3::s4::some (.own xs)::r) Q:=Zcj rfl q
theorem Zpj{s0 s1 s2 s3 s4:Option AV}{o:Option AV}(h:Ev K E X te (s0::s1::s2::s3::s4::o::r) λa=>∃ a',Sto (s0::s1::s2::s3::s4::o::r) a a'/\nx (s0::s1::s2::s3::s4::some a'::r)):Sv K E X (tAsg te (gName 5)) (s0::s1::s2::s3::s4::o::r) ⟨nx,rt,bk,ct⟩:=ZcL (n:=5) h (by simp only[List.length_cons];omega)
theorem gv_5{s0 s1 s2 s3 s4:Option AV}{o:Option AV}{P:Sl->Prop}(h:P (s0::s1::s2::s3::s4::some (.d x)::r)):Gv K (gName 5) x (s0::s1::s2::s3::s4::o::r) P:=ZbY (n:=5) h (by simp only[List.length_cons];omega)
theorem Zpk{s0 s1 s2 s3 s4 s5:Option AV}(q:Q (.av (.d x))):Ev K E X (tVar 6) (s0::s1::s2::s3::s4::s5::some (.d x)::r) Q:=Zcc rfl q
theorem Zpl{s0 s1 s2 s3 s4 s5:Option AV}{xs:List AV}(q:Q (.bor (.list (AV.datas xs)))):Ev K E X (tVar 6) (s0::s1::s2::s3::s4::s5::some (.own xs)::r) Q:=Zcj rfl q
theorem Zpm{s0 s1 s2 s3 s4 s5:Option AV}{o:Option AV}(h:Ev K E X te (s0::s1::s2::s3::s4::s5::o::r) λa=>∃ a',Sto (s0::s1::s2::s3::s4::s5::o::r) a a'/\nx (s0::s1::s2::s3::s4::s5::some a'::r)):Sv K E X (tAsg te (gName 6)) (s0::s1::s2::s3::s4::s5::o::r) ⟨nx,rt,bk,ct⟩:=ZcL (n:=6) h (by simp only[List.length_cons];omega)
theorem ZnU{s0 s1 s2 s3 s4 s5:Option AV}{xs:List AV}(h:Ev K E X te (s0::s1::s2::s3::s4::s5::some (.own xs)::r) λa=>∃ a',a.sto=some a'/\xs.length<=1000000/\nx (s0::s1::s2::s3::s4::s5::some (.own (xs++[a']))::r)):Sv K E X (tDrop (tBM K "list" rAppend (tVar 6) (tCons te tNil))) (s0::s1::s2::s3::s4::s5::some (.own xs)::r) ⟨nx,rt,bk,ct⟩:=Zck (n:=6) rfl h
theorem Zpn{s0 s1 s2 s3 s4 s5 s6:Option AV}(q:Q (.av (.d x))):Ev K E X (tVar 7) (s0::s1::s2::s3::s4::s5::s6::some (.d x)::r) Q:=Zcc rfl q
theorem Zpo{s0 s1 s2 s3 s4 s5 s6:Option AV}{xs:List AV}(q:Q (.bor (.list (AV.datas xs)))):Ev K E X (tVar 7) (s0::s1::s2::s3::s4::s5::s6::some (.own xs)::r) Q:=Zcj rfl q
theorem Zpp{s0 s1 s2 s3 s4 s5 s6:Option AV}{o:Option AV}(h:Ev K E X te (s0::s1::s2::s3::s4::s5::s6::o::r) λa=>∃ a',Sto (s0::s1::s2::s3::s4::s5::s6::o::r) a a'/\nx (s0::s1::s2::s3::s4::s5::s6::some a'::r)):Sv K E X (tAsg te (gName 7)) (s0::s1::s2::s3::s4::s5::s6::o::r) ⟨nx,rt,bk,ct⟩:=ZcL (n:=7) h (by simp only[List.length_cons];omega)
theorem gv_7{s0 s1 s2 s3 s4 s5 s6:Option AV}{o:Option AV}{P:Sl->Prop}(h:P (s0::s1::s2::s3::s4::s5::s6::some (.d x)::r)):Gv K (gName 7) x (s0::s1::s2::s3::s4::s5::s6::o::r) P:=ZbY (n:=7) h (by simp only[List.length_cons];omega)
theorem ZnV{s0 s1 s2 s3 s4 s5 s6:Option AV}{xs:List AV}(h:Ev K E X te (s0::s1::s2::s3::s4::s5::s6::some (.own xs)::r) λa=>∃ a',a.sto=some a'/\xs.length<=1000000/\nx (s0::s1::s2::s3::s4::s5::s6::some (.own (xs++[a']))::r)):Sv K E X (tDrop (tBM K "list" rAppend (tVar 7) (tCons te tNil))) (s0::s1::s2::s3::s4::s5::s6::some (.own xs)::r) ⟨nx,rt,bk,ct⟩:=Zck (n:=7) rfl h
theorem Zpq{s0 s1 s2 s3 s4 s5 s6 s7:Option AV}(q:Q (.av (.d x))):Ev K E X (tVar 8) (s0::s1::s2::s3::s4::s5::s6::s7::some (.d x)::r) Q:=Zcc rfl q
theorem Zpr{s0 s1 s2 s3 s4 s5 s6 s7:Option AV}{o:Option AV}(h:Ev K E X te (s0::s1::s2::s3::s4::s5::s6::s7::o::r) λa=>∃ a',Sto (s0::s1::s2::s3::s4::s5::s6::s7::o::r) a a'/\nx (s0::s1::s2::s3::s4::s5::s6::s7::some a'::r)):Sv K E X (tAsg te (gName 8)) (s0::s1::s2::s3::s4::s5::s6::s7::o::r) ⟨nx,rt,bk,ct⟩:=ZcL (n:=8) h (by simp only[List.length_cons];omega)
theorem gv_8{s0 s1 s2 s3 s4 s5 s6 s7:Option AV}{o:Option AV}{P:Sl->Prop}(h:P (s0::s1::s2::s3::s4::s5::s6::s7::some (.d x)::r)):Gv K (gName 8) x (s0::s1::s2::s3::s4::s5::s6::s7::o::r) P:=ZbY (n:=8) h (by simp only[List.length_cons];omega)
theorem Zps{s0 s1 s2 s3 s4 s5 s6 s7 s8:Option AV}(q:Q (.av (.d x))):Ev K E X (tVar 9) (s0::s1::s2::s3::s4::s5::s6::s7::s8::some (.d x)::r) Q:=Zcc rfl q
theorem Zpt{s0 s1 s2 s3 s4 s5 s6 s7 s8:Option AV}{o:Option AV}(h:Ev K E X te (s0::s1::s2::s3::s4::s5::s6::s7::s8::o::r) λa=>∃ a',Sto (s0::s1::s2::s3::s4::s5::s6::s7::s8::o::r) a a'/\nx (s0::s1::s2::s3::s4::s5::s6::s7::s8::some a'::r)):Sv K E X (tAsg te (gName 9)) (s0::s1::s2::s3::s4::s5::s6::s7::s8::o::r) ⟨nx,rt,bk,ct⟩:=ZcL (n:=9) h (by simp only[List.length_cons];omega)
theorem ZnW{s0 s1 s2 s3 s4 s5 s6 s7 s8:Option AV}{xs:List AV}(h:Ev K E X te (s0::s1::s2::s3::s4::s5::s6::s7::s8::some (.own xs)::r) λa=>∃ a',a.sto=some a'/\xs.length<=1000000/\nx (s0::s1::s2::s3::s4::s5::s6::s7::s8::some (.own (xs++[a']))::r)):Sv K E X (tDrop (tBM K "list" rAppend (tVar 9) (tCons te tNil))) (s0::s1::s2::s3::s4::s5::s6::s7::s8::some (.own xs)::r) ⟨nx,rt,bk,ct⟩:=Zck (n:=9) rfl h
theorem ZnX{s0 s1 s2 s3 s4 s5 s6 s7 s8 s9:Option AV}(q:Q (.av (.d x))):Ev K E X (tVar 10) (s0::s1::s2::s3::s4::s5::s6::s7::s8::s9::some (.d x)::r) Q:=Zcc rfl q
theorem Zpu{s0 s1 s2 s3 s4 s5 s6 s7 s8 s9:Option AV}{o:Option AV}{P:Sl->Prop}(h:P (s0::s1::s2::s3::s4::s5::s6::s7::s8::s9::some (.d x)::r)):Gv K (gName 10) x (s0::s1::s2::s3::s4::s5::s6::s7::s8::s9::o::r) P:=ZbY (n:=10) h (by simp only[List.length_cons];omega)
theorem ZnY{s0 s1 s2 s3 s4 s5 s6 s7 s8 s9 s10:Option AV}(q:Q (.av (.d x))):Ev K E X (tVar 11) (s0::s1::s2::s3::s4::s5::s6::s7::s8::s9::s10::some (.d x)::r) Q:=Zcc rfl q
theorem ZnZ{s0 s1 s2 s3 s4 s5 s6 s7 s8 s9 s10:Option AV}{o:Option AV}(h:Ev K E X te (s0::s1::s2::s3::s4::s5::s6::s7::s8::s9::s10::o::r) λa=>∃ a',Sto (s0::s1::s2::s3::s4::s5::s6::s7::s8::s9::s10::o::r) a a'/\nx (s0::s1::s2::s3::s4::s5::s6::s7::s8::s9::s10::some a'::r)):Sv K E X (tAsg te (gName 11)) (s0::s1::s2::s3::s4::s5::s6::s7::s8::s9::s10::o::r) ⟨nx,rt,bk,ct⟩:=ZcL (n:=11) h (by simp only[List.length_cons];omega)
theorem Zpv{t u:TS}{ρ:Sl}(h:Sv K E X t ρ ⟨λρ'=>Sv K E X u ρ' ⟨nx,rt,bk,ct⟩,rt,bk,ct⟩):Sv K E X (tSeq t u) ρ ⟨nx,rt,bk,ct⟩:=ZnK h
theorem Zn0{ρ:Sl}(h:nx ρ):Sv K E X tNext ρ ⟨nx,rt,bk,ct⟩:=Zma h
theorem ZlB{ρ:Sl}(h:Ev K E X te ρ λ_=>nx ρ):Sv K E X (tDrop te) ρ ⟨nx,rt,bk,ct⟩:=Zmb h
theorem Zn1{ρ:Sl}(h:Ev K E X te ρ rt):Sv K E X (tRet te) ρ ⟨nx,rt,bk,ct⟩:=ZnL h
theorem s_if{c:TT}{t u:TS}{ρ:Sl}(h:Tv K E X c ρ λb=>if b=true then Sv K E X t ρ ⟨nx,rt,bk,ct⟩ else Sv K E X u ρ ⟨nx,rt,bk,ct⟩):Sv K E X (tIfS c t u) ρ ⟨nx,rt,bk,ct⟩:=ZnM h
theorem Zfd{tc:TT}{tb:TS}{ρ:Sl}(Iv:Nat->Sl->Prop)(m0:Nat)(i0:Iv m0 ρ)
  (h:∀ m ρ',Iv m ρ'->Tv K E X tc ρ' λb=>if b=true then Sv K E X tb ρ' ⟨λρ2=>∃ m',m' < m/\Iv m' ρ2,rt,nx,λρ2=>∃ m',m' < m/\Iv m' ρ2⟩ else nx ρ'):Sv K E X (tWhile tc tb) ρ ⟨nx,rt,bk,ct⟩:=ZkF Iv m0 i0 h
theorem Zn2{m n:Nat}{ρ:Sl}{xs ys:List AV}(hm:ρ[m]?=some (some (.own ys)))(hi:ρ[n]?=some (some (.own xs)))(hne:n≠m)(hz:xs.length<=1000000)(q:nx ((ρ.set m none).set n (some (.own (xs++[.own ys]))))):Sv K E X (tDrop (tBM K "list" rAppend (tVar n) (tCons (tVar m) tNil))) ρ ⟨nx,rt,bk,ct⟩:=Zmc hm hi hne hz q
end
end VL
end
section
namespace L2
open PySem PySem.Spec PyProof.Rows
section
variable {X:Cx}{K:W.Frag}
def rOr(r r':R2):R2:=λx y H Q=>r x y H Q\/r' x y H Q
def rStr2:R2:=λx y H Q=>∃ i j,x=.str i/\y=.str j/\i.length+j.length<=sizeLine/\Q (.str (i++j)) H
def rAddI:R2:=rI0 λi j=>.int (i+j)
def rMulI:R2:=rI CMul λi j=>.int (i*j)
def rCatT0(K:W.Frag):R2:=λx y H Q=>∃ a b ys,x=.ref a/\y=.ref b/\SqT K H a []/\SqT K H b ys/\Q (.ref b) H
theorem ZkH{prog:Program}{w:World}{A:Around}{E:Value->Shared->Prop}{s:Shared}{t b:Addr}{ws:List Value}{Q:Value->Shared->Prop}(ht:IsTup s.heap t ([]:List Value).toArray)(hb:IsTup s.heap b ws.toArray)
  (h1:Q (.ref b) s):wpAny (model prog w) A (binaryOp .Add (.ref t) (.ref b)) Q E s:=by
 obtain⟨⟨cls,dd,data,sl⟩,ho,hc,n,hd⟩:=id ht
 obtain⟨⟨cls2,dd2,data2,sl2⟩,ho2,hc2,n2,hd2⟩:=id hb
 simp only at hc hd hc2 hd2
 subst hc hd hc2 hd2
 exact concat_meets ⟨_,ho,rfl⟩ ⟨_,ho2,rfl⟩ noFill_tuple_add seq_tuple_add PySem.F.slot_tuple_add PySem.F.entry_tuple_add (PySem.F.args_tuple_add_2 _ _)
   (tuple_addW0 t b #[] ws.toArray n n2 dd dd2 sl sl2 rfl) ⟨ho,ho2,h1⟩
theorem ZkI(hK:X.K=K):OpR X (binaryOp .Add) (rCatT0 K):=by
 subst hK
 intro pins s σ H x y v u Q I rx ry h
 obtain⟨a,b,ys,rfl,rfl,ha,hb,q⟩:=h
 cases rx
 cases ry
 obtain⟨its,r1,p1,_⟩:=I.tuple ha
 obtain⟨its2,r2,p2,_⟩:=I.tuple hb
 cases r1
 exact ZkH p1 p2 ⟨.ref b,H,I,rfl,q⟩
theorem Zbi(hK:X.K=K):OpR X (binaryOp .Add) (rOr rAddI (rOr (rCatS K) (rOr (rCatT K) (rOr rStr2 (rCatT0 K))))):=Znh.or ((Zmg hK).or ((ZkB hK).or (Zic.or (ZkI hK))))
theorem Za4:OpR X (binaryOp .Mult) (rOr rMulI rRep):=Zni.or Zno
theorem Zn3(hK:X.K=K)(hu:X.A.units+64<cLine):OpR X (compareOp .Eq) (rOr rEq (rEqD K)):=ZoY.or (Zl5 hK hu)
theorem Zcl(hK:X.K=K)(hu:X.A.units+64<cLine):OpR X (compareOp .NotEq) (rOr rNe (rNeD K)):=ZoZ.or (Zl6 hK hu)
theorem Zag(hK:X.K=K)(hu:X.A.units+64<cLine):IxR X (rOr (rIxL K) (rOr (rIxT K) (rOr rIxS rIxDc))):=by subst hK;exact Zl0.or (Znl.or (Znm.or (ZnA hu)))
def cOr(r r':List V->Hp->VK->Prop):List V->Hp->VK->Prop:=λxs H Q=>r xs H Q\/r' xs H Q
def rLenS:List V->Hp->VK->Prop:=λxs H Q=>∃ z,xs=[.str z]/\z.length<=sizeLine/\Q (.int z.length) H
theorem ZaC(hK:X.K=K):CallR X (.builtin "len") (cOr (rLen K) rLenS):=by subst hK;exact ZiX.or ZfX
def iSeq(K:W.Frag)(tl:TE):TI:=λσ H R=>tl σ H λx H1=>∃ a,x=.ref a/\(((∃ xs,SqL K H1 a xs)/\R (Itl K a) H1)\/((∃ xs,SqT K H1 a xs)/\R (Itt K a) H1))
theorem ZbD{tg l:Expr}{tl:TE}(hK:X.K=K)(hl:PE X l tl):PI X tg l (iSeq K tl):=by
 subst hK
 intro pins s σ H R I h
 refine thn (hl pins s σ H _ I h) λv s1 ⟨x,H1,I1,r1,q1⟩=>?_
 obtain⟨a,e,q⟩:=q1
 subst e
 cases r1
 have fr:∀ b∈[s1.heap.objs.size],FpOk X pins H1 b:=λb hb=>by
  rw[List.mem_singleton.mp hb]
  exact I1.fpOk (Nat.le_refl _) (I1.hok.fresh (Nat.le_refl _))
 rcases q with⟨⟨xs,hq⟩,q⟩|⟨⟨xs,hq⟩,q⟩
 ·obtain⟨its,_,p,_⟩:=I1.list hq
  exact wpAny_pyIter_list p.isList ⟨s1.heap.objs.size,_,_,_,H1,rfl,I1.kept (t':=s1.toks) λb o e=>Heap.get?_push_of_some _ e,ZiH a _,⟨_,Heap.get?_push_size _ rfl,rfl,rfl⟩,fr,q⟩
 ·obtain⟨its,_,p,_⟩:=I1.tuple hq
  exact wpAny_pyIter_tuple (show s1.heap.IsTuple a its.toArray from p) ⟨s1.heap.objs.size,_,_,_,H1,rfl,I1.kept (t':=s1.toks) λb o e=>Heap.get?_push_of_some _ e,Zia a _,⟨_,Heap.get?_push_size _ rfl,rfl,rfl⟩,fr,q⟩
end
end L2
namespace VL
open PySem PySem.Spec L2
variable [Tabs]
section
variable {K:W.Frag}{E:FK}{X:Exc->Sl->Prop}{ρ:Sl}{Q:TV->Prop}{tb te:TE}{i j:Int}{r r':R2}{a b:TV}
theorem op_l(h:Op K E X r a b Q):Op K E X (rOr r r') a b Q:=λH0 σ ρ ts as H x y QV s x' k=>.inl (h H0 σ ρ ts as H x y QV s x' k)
theorem op_r(h:Op K E X r' a b Q):Op K E X (rOr r r') a b Q:=λH0 σ ρ ts as H x y QV s x' k=>.inr (h H0 σ ρ ts as H x y QV s x' k)
abbrev rPlus(K:W.Frag):R2:=rOr rAddI (rOr (rCatS K) (rOr (rCatT K) (rOr rStr2 (rCatT0 K))))
theorem Zpw(q:Q (.av (.d (.int (i+j))))):Op K E X (rOr rAddI r') (.av (.d (.int i))) (.av (.d (.int j))) Q:=op_l (ZnE q)
theorem Zn4(c:CMul i j)(q:Q (.av (.d (.int (i*j))))):Op K E X (rOr rMulI r') (.av (.d (.int i))) (.av (.d (.int j))) Q:=op_l (op_i c q)
theorem ne_i(q:Q (.av (.d (.bool (!decide (i=j)))))):Op K E X (rOr rNe r') (.av (.d (.int i))) (.av (.d (.int j))) Q:=op_l (ZnF q)
theorem eq_d{α:Type}[DecidableEq α]{f:α->PyData}{m:Nat}{c d:α}(F:Enc f m)(ha:a.data=f c)(hb:b.data=f d)(q:Q (.av (.d (.bool (decide (c=d))))))(na:NR a:=by first|exact NR.av|exact NR.bor)(nb:NR b:=by first|exact NR.av|exact NR.bor)(hm:m<=32:=by decide):Op K E X (rOr rEq (rEqD K)) a b Q:=op_r (ZnG F ha hb q na nb hm)
theorem ne_d{α:Type}[DecidableEq α]{f:α->PyData}{m:Nat}{c d:α}(F:Enc f m)(ha:a.data=f c)(hb:b.data=f d)(q:Q (.av (.d (.bool (!decide (c=d))))))(na:NR a:=by first|exact NR.av|exact NR.bor)(nb:NR b:=by first|exact NR.av|exact NR.bor)(hm:m<=32:=by decide):Op K E X (rOr rNe (rNeD K)) a b Q:=op_r (ZnH F ha hb q na nb hm)
abbrev rIdx(K:W.Frag):R2:=rOr (rIxL K) (rOr (rIxT K) (rOr rIxS rIxDc))
theorem ix_L{ds:List PyData}{y:PyData}{c:TV}{k:Int}(ha:a.data=.list ds)(e:atI ds k=some y)(it:Item a y c)(q:Q c)(na:NR a:=by first|exact NR.av|exact NR.bor):Op K E X (rIdx K) a (.av (.d (.int k))) Q:=op_l (ZnI ha e it q na)
theorem ix_T{ds:List PyData}{y:PyData}{c:TV}{k:Int}(ha:a.data=.tuple ds)(e:atI ds k=some y)(it:Item a y c)(q:Q c)(na:NR a:=by first|exact NR.av|exact NR.bor):Op K E X (rIdx K) a (.av (.d (.int k))) Q:=op_r (op_l (ZnJ ha e it q na))
theorem Zpx{ds es:List PyData}(ha:a.data=.list ds)(hb:b.data=.list es)(ka:Kp a.frz ds)(kb:Kp b.frz es)(hz:ds.length+es.length<=1000000)(q:Q (.av (.own ((ds++es).map AV.d))))(na:NR a:=by first|exact NR.av|exact NR.bor)(nb:NR b:=by first|exact NR.av|exact NR.bor):Op K E X (rPlus K) a b Q:=op_r (op_l (Zmj ha hb ka kb hz q na nb))
theorem Zpy{ds:List PyData}{k:Int}(hn:noLsts ds=true)(hk:-(2 ^ 63)<=k/\k<2 ^ 63)(hz:ds.length*k.toNat<=1000000)(q:Q (.av (.own ((List.replicate k.toNat ds).flatten.map AV.d)))):Op K E X (rOr rMulI rRep) (.av (.own (ds.map AV.d))) (.av (.d (.int k))) Q:=op_r (Zmk hn hk hz q)
theorem bi_l{c c':List V->Hp->VK->Prop}{bs:List TV}(h:Bi K E X c bs Q):Bi K E X (cOr c c') bs Q:=λH0 σ ρ ts as H vs QV s hl x k=>.inl (h H0 σ ρ ts as H vs QV s hl x k)
theorem Zf5{ds:List PyData}(ha:a.data=.list ds)(q:Q (.av (.d (.int ds.length))))(na:NR a:=by first|exact NR.av|exact NR.bor):Bi K E X (cOr (rLen K) rLenS) [a] Q:=bi_l (Zmh ha q na)
theorem ZkJ{ds:List PyData}(ha:a.data=.tuple ds)(q:Q (.av (.d (.int ds.length))))(na:NR a:=by first|exact NR.av|exact NR.bor):Bi K E X (cOr (rLen K) rLenS) [a] Q:=bi_l (Zmi ha q na)
theorem Zml{l:Addr}{ds:List PyData}:ItOk K (Itl K l) (.ref l) (.list ds) ds.length λi=>ds.getD i .none:=by
 intro G H sm rp
 obtain⟨l',ys,e',h3,h4⟩:=rp.list_inv
 cases e'
 have h5:=sm.seq h3
 refine⟨λi hi=>?_,λi hi=>⟨ys,h5,by rw[h4.length];exact hi⟩⟩
 obtain⟨w,h6,h7⟩:=h4.get (i:=i) (d:=ds.getD i .none) (by rw[List.getD_eq_getElem?_getD,List.getElem?_eq_getElem hi];rfl)
 refine⟨⟨ys,w,h5,h6⟩,λx H' ⟨e1,e2⟩=>?_⟩
 subst e1
 have:=e2 ys h5
 rw[h6] at this
 cases this
 exact⟨.refl _,λG' m _=>h7.same m⟩
theorem ZkK{l:Addr}{ds:List PyData}:ItOk K (Itt K l) (.ref l) (.tuple ds) ds.length λi=>ds.getD i .none:=by
 intro G H sm rp
 obtain⟨l',ys,e',h3,h4⟩:=rp.tuple_inv
 cases e'
 have h5:=sm.tupS h3
 refine⟨λi hi=>?_,λi hi=>⟨ys,h5,by rw[h4.length];exact hi⟩⟩
 obtain⟨w,h6,h7⟩:=h4.get (i:=i) (d:=ds.getD i .none) (by rw[List.getD_eq_getElem?_getD,List.getElem?_eq_getElem hi];rfl)
 refine⟨⟨ys,w,h5,h6⟩,λx H' ⟨e1,e2⟩=>?_⟩
 subst e1
 have:=e2 ys h5
 rw[h6] at this
 cases this
 exact⟨.refl _,λG' m _=>h7.same m⟩
theorem Zi7{P:Nat->(Nat->PyData)->TV->Prop}(h:Ev K E X te ρ λa=>∃ ds,(a.data=.list ds\/a.data=.tuple ds)/\NR a/\P ds.length (λi=>ds.getD i .none) a.frz):Iv K E X (iSeq K te) ρ P:=λH0 σ ts as H R s x k =>
 h H0 σ ts as H _ s x λa ⟨ds,e,na,q⟩ v H' s'=>by
  have rp:=s'.top na
  rcases e with e|e
  ·rw[e] at rp
   obtain⟨l,xs,rfl,h1,h2⟩:=rp.list_inv
   refine⟨l,rfl,.inl ⟨⟨xs,h1⟩,k _ _ _ q (.ref l) _ H' (TV.frz_nr na) s'.frzV ?_⟩⟩
   rw[TV.frz_data,e]
   exact Zml
  ·rw[e] at rp
   obtain⟨l,xs,rfl,h1,h2⟩:=rp.tuple_inv
   refine⟨l,rfl,.inr ⟨⟨xs,h1⟩,k _ _ _ q (.ref l) _ H' (TV.frz_nr na) s'.frzV ?_⟩⟩
   rw[TV.frz_data,e]
   exact ZkK
theorem Zdc{α:Type}{xs:List α}{e:α->PyData}{i:Nat}(hi:i<xs.length):(xs.map e).getD i .none=e xs[i]:=by
 rw[List.getD_eq_getElem?_getD,List.getElem?_map,List.getElem?_eq_getElem hi];rfl
theorem Zmm{α:Type}{nx bk ct:Sl->Prop}{rt:TV->Prop}{g:TG}{tb:TS}(h:Ev K E X te ρ λa=>∃ (xs:List α) (e:α->PyData),(a.data=.list (xs.map e)\/a.data=.tuple (xs.map e))/\(∃ c,a=.av c)/\∃ Iw:Nat->Sl->Prop,Iw 0 ρ/\(∀ i ρ' (hi:i<xs.length),Iw i ρ'->Gv K g (e xs[i]) ρ' λρ''=>Sv K E X tb ρ'' ⟨Iw (i+1),rt,nx,Iw (i+1)⟩)/\∀ ρ',Iw xs.length ρ'->nx ρ'):Sv K E X (tFor (iSeq K te) g tb) ρ ⟨nx,rt,bk,ct⟩ :=
 Zhr (Zi7 (ZeP h (λa hh=>by
  obtain⟨xs,e,ha,⟨c,hc⟩,Iw,i0,turn,fin⟩:=hh
  exact⟨xs.map e,ha,by subst hc;exact NR.av,⟨c.data,by rw[hc];rfl⟩,Iw,i0,λi ρ' hi w=>by
  rw[List.length_map] at hi
  show Gv K g ((xs.map e).getD i .none) ρ' _
  rw[Zdc hi]
  exact turn i ρ' hi w,λρ' w=>fin ρ' (by rw[List.length_map] at w;exact w)⟩)))
theorem ZkL{nx bk ct:Sl->Prop}{rt:TV->Prop}{A:TA}{g:TG}{tb:TS}(h:Ea K E X A ρ λbs=>∃ j,bs=[.av (.d (.int j))]/\(-(2 ^ 62)<=j/\j<2 ^ 62)/\∃ Iw:Nat->Sl->Prop,Iw 0 ρ/\(∀ (i:Nat) ρ',i<j.toNat->Iw i ρ'->Gv K g (.int i) ρ' λρ''=>Sv K E X tb ρ'' ⟨Iw (i+1),rt,nx,Iw (i+1)⟩)/\∀ ρ',Iw j.toNat ρ'->nx ρ'):Sv K E X (tFor (iRng1 A) g tb) ρ ⟨nx,rt,bk,ct⟩ :=
 Zhr (Zi4 λH0 σ ts as H QV s x k=>h H0 σ ts as H QV s x (λbs hh=>by
  obtain⟨j,e,hj,Iw,i0,turn,fin⟩:=hh
  exact k bs ⟨j,e,hj,⟨_,rfl⟩,Iw,i0,λi ρ' hi w=>by
  show Gv K g (.int (0+(i:Int))) ρ' _
  rw[Int.zero_add]
  exact turn i ρ' hi w,fin⟩))
theorem Zd5{α:Type}(xs:List α)(f:α->Option AV):(List.range xs.length).filterMap (λi=>(xs[i]?).bind f)=xs.filterMap f:=by
 induction xs with
 | nil=>rfl
 | cons x xs ih =>
  rw[List.length_cons,List.range_succ_eq_map,List.filterMap_cons,List.filterMap_map]
  have:(λi=>((x::xs)[i]?).bind f) ∘ Nat.succ=λi=>(xs[i]?).bind f:=by funext i;simp
  rw[this,ih]
  simp[List.filterMap_cons]
theorem ZlC{α:Type}{cap:List (Option Nat)}{g:TG}{tt:TT}{ti:TE}(h:Ev K E X ti ρ λa=>∃ (xs:List α) (e:α->PyData) (y:α->Option AV),(a.data=.list (xs.map e)\/a.data=.tuple (xs.map e))/\NR a/\xs.length<=1000000 /\
  (∀ i (hi:i<xs.length),Gv K g (e xs[i]) (capV cap ρ) λρ'=>Wk ρ' (capV cap ρ)/\Tv K E NE tt ρ' λb=>if b=true then Ev K E NE te ρ' λa=>∃ c,y xs[i]=some c/\a.sto=some c else y xs[i]=none) /\
  ∃ a,Got (.own (xs.filterMap y)) a/\Q a):Ev K E X (tComp cap (iSeq K ti) g tt te) ρ Q :=
 Zi5 (Zi7 (ZeP h (λa hh=>by
  obtain⟨xs,e,y,ha,na,hl,turn,c,hg,q⟩:=hh
  exact⟨xs.map e,ha,na,by rw[List.length_map];exact hl,λi=>(xs[i]?).bind y,λi hi=>by
  rw[List.length_map] at hi
  show Gv K g ((xs.map e).getD i .none) _ λρ'=>_/\Tv K E _ tt ρ' λb=>if b=true then Ev K E _ te ρ' λa=>∃ c,(xs[i]?).bind y=some c/\_ else (xs[i]?).bind y=none
  rw[Zdc hi,List.getElem?_eq_getElem hi]
  exact turn i hi,c,by rw[List.length_map,Zd5];exact hg,q⟩)))
theorem ZcM{α:Type}{cap:List (Option Nat)}{g:TG}{ti:TE}(h:Ev K E X ti ρ λa=>∃ (xs:List α) (e:α->PyData) (y:α->AV),(a.data=.list (xs.map e)\/a.data=.tuple (xs.map e))/\NR a/\xs.length<=1000000 /\
  (∀ i (hi:i<xs.length),Gv K g (e xs[i]) (capV cap ρ) λρ'=>Wk ρ' (capV cap ρ)/\Ev K E NE te ρ' λa=>a.sto=some (y xs[i])) /\
  ∃ a,Got (.own (xs.map y)) a/\Q a):Ev K E X (tComp cap (iSeq K ti) g tAll te) ρ Q :=
 ZlC (α:=α) (ZeP h (λa hh=>by
  obtain⟨xs,e,y,ha,na,hl,turn,c,hg,q⟩:=hh
  exact⟨xs,e,λx=>some (y x),ha,na,hl,λi hi H0 σ ts as H v Qg s k=>turn i hi H0 σ ts as H v Qg s λρ' ⟨w,ev⟩=>k ρ' ⟨w,Zhp (by
  rw[if_pos rfl]
  exact ZeP ev λa z=>⟨_,rfl,z⟩)⟩,c,by rw[List.filterMap_eq_map'];exact hg,q⟩))
theorem Zn5{cap:List (Option Nat)}{A:TA}{g:TG}(h:Ea K E X A ρ λbs=>∃ (j:Int) (y:Nat->AV),bs=[.av (.d (.int j))]/\(-(2 ^ 62)<=j/\j<=1000000) /\
  (∀ i:Nat,i<j.toNat->Gv K g (.int i) (capV cap ρ) λρ'=>Wk ρ' (capV cap ρ)/\Ev K E NE te ρ' λa=>a.sto=some (y i)) /\
  ∃ a,Got (.own ((List.range j.toNat).map y)) a/\Q a):Ev K E X (tComp cap (iRng1 A) g tAll te) ρ Q :=
 Zi5 (Zi4 λH0 σ ts as H QV s x k=>h H0 σ ts as H QV s x (λbs hh=>by
  obtain⟨j,y,e,hj,turn,c,hg,q⟩:=hh
  exact k bs ⟨j,e,⟨hj.1,by omega⟩,by omega,λi=>some (y i),λi hi H0 σ ts as H v Qg s k=>by
  have s:SR K H0 σ (capV cap ρ) (v::ts) (.av (.d (.int (0+(i:Int))))::as) H:=s
  rw[Int.zero_add] at s
  exact turn i hi H0 σ ts as H v Qg s λρ' ⟨w,ev⟩=>k ρ' ⟨w,Zhp (by
   rw[if_pos rfl]
   exact ZeP ev λa z=>⟨_,rfl,z⟩)⟩,c,by rw[List.filterMap_eq_map'];exact hg,q⟩))
theorem ZdU{α:Type}(xs:List α)(y:α->AV):(AV.own (xs.map y)).data=.list (xs.map λx=>(y x).data):=by
 rw[AV.data,AV.datas_map,List.map_map];rfl
theorem Zaw{α:Type}(xs:List α)(y:α->PyData):AV.datas (xs.map λx=>.d (y x))=xs.map y:=by
 rw[AV.datas_map,List.map_map];rfl
theorem Zi8{xs:List AV}(h:∀ x∈xs,x.clean=true):AV.cleans xs=true:=by
 induction xs with
 | nil=>rfl
 | cons x xs ih=>simp only[AV.cleans,Bool.and_eq_true];exact⟨h x (.head _),ih λy hy=>h y (.tail _ hy)⟩
theorem ZaH{α:Type}{xs:List α}{y:α->AV}(h:∀ x,(y x).clean=true):(AV.own (xs.map y)).clean=true:=by
 rw[AV.clean]
 exact Zi8 λz hz=>by obtain⟨x,_,rfl⟩:=List.mem_map.mp hz;exact h x
end
end VL
end
section
namespace L2
open PySem PySem.Spec PyProof.Rows
def tIfJ(c:TT)(t u:TS):TS:=tIfS c t u
theorem Zhs{X:Cx}{pos:Pos}{c:Expr}{a b:List Stmt}{tc:TT}{t u:TS}(hc:PT X c tc)(ha:PSs X a t)(hb:PSs X b u):PS X (.If c a b pos) (tIfJ tc t u):=Zdv hc ha hb
end L2
namespace VL
open PySem PySem.Spec PyProof.Rows L2
variable [Tabs]
def NX:List PyData->Exc->Prop:=λ_ _=>False
def ini(N:List Str)(ds:List PyData):Sl:=ds.map (λd=>some (.d d))++List.replicate (N.length-ds.length) none
abbrev fin(c:AV):VEnds:=⟨λ_=>c=.d .none,λa=>Res a c,λ_=>False,λ_=>False⟩
section
variable {P:Program}{w:World}{K:W.Frag}{mg:Str->Option Value}{base:Heap}{CX:CXT}{x:Str}{st:Stmt}{N ps:List Str}{dvss:List (List V)}{k:Nat}{S:List PyData->AV->Prop}
theorem Zht{t:TS}{vs:List V}{H:Hp}{Qv:VK}{E:XK}(sp:spV K S NX vs H Qv E)(h:∀ ds c,S ds c->Sv K (toF E) NE t (ini N ds) (fin c)):t { nx:=λ_ H'=>Qv .non H',rt:=Qv } (L2.start N vs) H :=
 Zmf (N:=N) sp λds=>⟨λc hc=>h ds c hc,λe he=>he.elim⟩
theorem Zmn{vs:List V}{H:Hp}{Q:VK}{E:XK}{n:Nat}(h:spV K S NX vs H Q E)(hS:∀ ds c,S ds c->ds.length=n):vs.length=n:=by
 obtain⟨_,ds,r,⟨c,hc,_⟩|⟨e,he,_⟩⟩:=h
 ·rw[r.length];exact hS ds c hc
 ·exact he.elim
theorem val(T:Tx K mg x st ps dvss)(Sc:FnScope N ps (defScope st))(hS:∀ ds c,S ds c->ds.length=ps.length)
  (hbody:∀ (f:Addr) (cdv:Value) (A:Around) (outer:List Env) (s:Shared) (H:Hp) (E:XK),Room k (A.deeper (envOfC x (defScope st) s.heap.objs.size f cdv)) ->
   ∃ t,PSs (cxOf CX P w K mg base N x (defScope st) f cdv A outer s H E).nox (defBody st) t/\∀ ds c,S ds c->Sv K (toF E) NE t (ini N ds) (fin c)) :
  ∀ dvs∈dvss,Cal P w K mg base CX (k+1) x ps dvs (spV K S NX) :=
 T.cal (k:=k) Sc (λvs H Q E h=>Zmn h hS) λf cdv A outer s H vs Q E hr h =>
  let ⟨t,h1,h2⟩:=hbody f cdv A outer s H E hr
  ⟨t,h1,Zht h h2⟩
end
section
variable {K:W.Frag}{E:FK}{X:Exc->Sl->Prop}{ρ:Sl}{Q:TV->Prop}{r:R2}{t u:TS}{a b:TV}
theorem v_b{c:Bool}{P:Bool->Prop}(h:P c):∃ c',TV.av (.d (.bool c))=.av (.d (.bool c'))/\P c':=⟨c,rfl,h⟩
theorem v_s{c:AV}{P:AV->Prop}(h:P c):∃ a',Sto ρ (.av c) a'/\P a':=⟨c,.inl rfl,h⟩
theorem v_sB{x:PyData}{P:AV->Prop}(hn:NoOwn ρ)(h:P (.d x)):∃ a',Sto ρ (.bor x) a'/\P a':=⟨.d x,.inr (.inr ⟨hn,⟨x,rfl⟩,rfl⟩),h⟩
theorem v_sD{c:AV}{x:PyData}{P:AV->Prop}(e:c.data=x)(h:P (.d x)):∃ a',Sto ρ (.av c) a'/\P a':=⟨.d x,.inr (.inl ⟨c,rfl,by rw[e]⟩),h⟩
theorem v_ap{c:AV}{xs:List AV}{P:AV->Prop}(hz:xs.length<=1000000)(h:P c):∃ a',(TV.av c).sto=some a'/\xs.length<=1000000/\P a':=⟨c,rfl,hz,h⟩
def Cl(S:List PyData->AV->Prop)(dds:List PyData)(Q:TV->Prop)(bs:List TV):Prop:=NRs bs/\∃ c a,S (bs.map TV.data++dds) c/\Got c a/\Q a
theorem ZaR{S:List PyData->AV->Prop}{bs:List TV}{dds:List PyData}{c:AV}(nr:NRs bs)(hS:S (bs.map TV.data++dds) c)(g:Got c a)(q:Q a):Cl S dds Q bs:=⟨nr,c,a,hS,g,q⟩
theorem Zpz{S:List PyData->AV->Prop}{SX:List PyData->Exc->Prop}{dvs:List V}{dds:List PyData}{A:TA}{E':XK}(hd:DvDs dvs dds)(h:Ea K E X A ρ (Cl S dds Q)):Ev K E X (tCall (spV K S SX) dvs E' A) ρ Q:=λH0 σ ts as H QV s x k =>
 h H0 σ ts as H _ s x λbs ⟨nr,c,a,h1,h2,h3⟩ vs H' s' hl=>by
  obtain⟨rp,s2⟩:=SR.reps nr.all hl s'
  exact⟨x.t.same s2.same,bs.map TV.data++dds,rp.append hd.reps,.inl ⟨c,h1,λv H2 r=>k a h3 v H2 (s2.gotG r h2)⟩⟩
theorem ZpA{S:List PyData->AV->Prop}{SX:List PyData->Exc->Prop}{A:TA}{E':XK}(h:Ea K E X A ρ (Cl S [] Q)):Ev K E X (tCall (spV K S SX) [] E' A) ρ Q:=Zpz .nil h
theorem ZaZ{x:PyData}{c:AV}(h:c=.d x):Res (.av (.d x)) c:=.inl (by rw[h])
theorem Zf6{xs:List AV}{c:AV}(h:c=.own xs):Res (.av (.own xs)) c:=.inl (by rw[h])
theorem Zn6{nx nx' bk ct:Sl->Prop}{rt:TV->Prop}(h:Sv K E X t ρ ⟨nx',rt,bk,ct⟩)(m:∀ ρ',nx' ρ'->nx ρ'):Sv K E X t ρ ⟨nx,rt,bk,ct⟩:=λH0 σ ts as H D st s x f=>h H0 σ ts as H D st s x ⟨λρ' q=>f.nx ρ' (m ρ' q),f.bk,f.ct,f.rt⟩
theorem ZkM{nx bk ct:Sl->Prop}{rt:TV->Prop}{c:TT}(J:Sl->Prop)(hJ:∀ ρ',J ρ'->nx ρ')(h:Tv K E X c ρ λb=>if b=true then Sv K E X t ρ ⟨J,rt,bk,ct⟩ else Sv K E X u ρ ⟨J,rt,bk,ct⟩):Sv K E X (tIfJ c t u) ρ ⟨nx,rt,bk,ct⟩:=Zn6 (ZnM h) hJ
theorem iteNT{A B:Prop}(h:B):if (!true)=true then A else B:=h
theorem iteNF{A B:Prop}(h:A):if (!false)=true then A else B:=h
theorem ZpB(q:Q (.av (.own []))):Ev K E X (tLst tNil) ρ Q:=Zho (ZlA ⟨[],.nil,Nat.zero_le _,q⟩)
end
end VL
end
section
namespace VL
open PySem PySem.Spec PyProof.Rows L2
variable [Tabs]
section
variable {H:Hp}
theorem ZkN{p q:Fp}(hl:∀ b,0<p b+q b->∃ o,H b=some o/\Mu o){a:Addr}{o:HO}(e:H a=some o)(n:¬ Mu o):VL.hid H p q a=some o:=by
 unfold VL.hid
 rw[if_pos]
 ·exact e
 ·rcases Nat.eq_zero_or_pos (p a+q a) with z|z
  ·exact z
  ·obtain⟨vs,z,mu⟩:=hl a z;rw[e] at z;cases z;exact absurd mu n
end
end VL
end
section
namespace L2
open PySem PySem.Spec PyProof.Rows
section
variable {X:Cx}{pins:List (Addr×Obj)}{σ:St}{H:Hp}{s:Shared}
theorem Inv.born{e:Addr}{o:HO}{h':Heap}{t':Nat}(I:Inv X pins σ H s)(hn:H e=none)(hes:s.heap.get? e=none)(k:∀ b u,s.heap.get? b=some u->h'.get? b=some u)(n1:ObjOk X.prog X.w (upd H e o) h' e o):Inv X pins σ (upd H e o) { s with heap:=h',toks:=t' }:=by
 have ne:∀ b u,s.heap.get? b=some u->b≠e:=λb u q z=>by rw[z,hes] at q;cases q
 refine I.un ⟨λb u q n _ _=>k b u q,λb u q n _ _=>⟨u.slots,k b u q⟩,λb u q n _=>by rw[Zah (ne b u q)];exact n,λb u q _=>⟨u,k b u q⟩,λb xs q=>by rw[Zah (Zan q hn)];exact q,λb u xs q=>by rw[Zah (Zan q hn)];exact q,λb ps q=>⟨#[],by rw[Zah (Zan q hn)];simpa using q⟩⟩ λa u q=>?_
 by_cases ha:a=e
 ·subst ha;rw[Zak] at q;cases q;exact n1
 ·rw[Zah ha] at q
  refine (I.hok a u q).stay (λb u' _ z=>k b u' z) (λb z=>by rw[Zah (Zan z hn)];exact z) λb xs z=>by rw[Zah (Zan z hn)];exact z
end
end L2
end
section
namespace VL
open PySem PySem.Spec L2
variable [Tabs]
section
variable {K:W.Frag}{G G' H H' H0:Hp}{σ:St}{ρ:Sl}{ts:List V}{as:List TV}{v y:V}{b:TV}
theorem RAs.pick{c:AV}:∀ {vs:List V} {xs:List AV} {p:Fp} {j:Nat},RAs K G H vs xs p->xs[j]?=some c ->
  ∃ (p1 p2:Fp) (w:V),(∀ b,p b=p1 b+p2 b)/\vs[j]?=some w/\RA K G H w c p1/\∀ (G' H':Hp) (c':AV) (p1':Fp),Same G G'->(∀ b o,0<p2 b->H b=some o->H' b=some o)->RA K G' H' w c' p1'->RAs K G' H' vs (xs.set j c') (λb=>p1' b+p2 b)
 | _,_,_,_,.nil _,e=>by simp at e
 | _,_,_,0,.cons (p:=p1) (q:=q1) (v:=v0) r rs e0,e=>by
  simp at e
  subst e
  exact⟨p1,q1,v0,e0,rfl,r,λG' H' c' p1' m k r'=>.cons r' (rs.mono m k) λ_=>rfl⟩
 | _,_,_,j+1,.cons (p:=p1) (q:=q1) r rs e0,e=>by
  obtain⟨pa,pb,w,h1,h2,h3,h4⟩:=RAs.pick (j:=j) rs (by simpa using e)
  refine⟨pa,λb=>p1 b+pb b,w,λb=>by have:=e0 b;have:=h1 b;dsimp only;omega,by simpa using h2,h3,λG' H' c' p1' m k r'=>?_⟩
  exact .cons (r.mono m λb o z=>k b o (by dsimp only;omega)) (h4 G' H' c' p1' m (λb o z=>k b o (by dsimp only;omega)) r') λb=>by dsimp only;omega
theorem SR.write2{i j:Nat}{xs ys ys':List AV}{c:AV}(h:SR K H0 σ ρ (v::ts) (.av c::as) H)(hS:Stb as)(hi:ρ[i]?=some (some (.own xs)))(hj:xs[j]?=some (.own ys)) :
  ∃ l m us vs,σ[i]?=some (some (.ref l))/\H l=some (.lst us)/\us.length=xs.length/\us[j]?=some (.ref m)/\H m=some (.lst vs)/\vs.length=ys.length/\∀ vs',(∀ G H p q,RAs K G H vs ys p->RA K G H v c q->∃ p':Fp,(∀ b,p' b<=p b+q b)/\RAs K G H vs' ys' p')->SR K H0 σ (ρ.set i (some (.own (xs.set j (.own ys'))))) ts as (upd H m (.lst vs')):=by
 obtain⟨⟨p,q,h1,h2,h3,h4⟩,s⟩:=h
 obtain⟨p1,p2,w,e1,e2,e3,e4⟩:=h1.frz hi λ_ _ _ _=>trivial
 cases h2 with
 | @cons _ _ _ _ q1 q2 _ r rs eq =>
  cases r with
  | av r =>
  cases e3 with
  | @own l us _ p3 _ hl hr ep =>
   obtain⟨pa,pb,u,f1,f2,f3,f4⟩:=hr.pick hj
   cases f3 with
   | @own m vs _ p5 _ hm hy em =>
   refine⟨l,m,us,vs,e2,hl,hr.len,f2,hm,hy.len,λvs' hw=>?_⟩
   have hpl:p1 l=1+p3 l:=by have:=ep l;simpa using this
   have hpm:pa m=1+p5 m:=by have:=em m;simpa using this
   have tot:∀ b,p1 b=(if b=l then 1 else 0)+(pa b+pb b):=λb=>by rw[ep b,f1 b]
   have lm:l≠m:=λy=>by subst y;have a1:=tot l;rw[if_pos rfl] at a1;have:=e1 l;have:=h3 l;omega
   have ne:∀ b u,p b+q b=0->H b=some u->b≠m:=λb u z _ y=>by subst y;have:=e1 b;have:=tot b;omega
   have m0:Same (hid H p q) (hid (upd H m (.lst vs')) p q):=ZcP λb u z w=>⟨z,ne b u z w⟩
   have k0:∀ b o,0<(if b=l then 1 else 0)+pb b+p5 b+p2 b+q b->H b=some o->upd H m (.lst vs') b=some o:=λb o z w=>by
    rw[Zah (λy=>by subst y;have:=h3 b;have:=e1 b;have:=tot b;simp[lm.symm] at z;omega)];exact w
   obtain⟨p',l1,l2⟩:=hw _ _ _ _ (hy.mono m0 λb o z=>k0 b o (by omega)) (r.mono m0 λb o z=>k0 b o (by have:=eq b;omega))
   have in1:=f4 (hid (upd H m (.lst vs')) p q) (upd H m (.lst vs')) (.own ys') (λb=>(if b=m then 1 else 0)+p' b) m0 (λb o z=>k0 b o (by omega)) (.own Zak l2 λ_=>rfl)
   have z:=e4 (hid (upd H m (.lst vs')) p q) (upd H m (.lst vs')) (.ref l) (.own (xs.set j (.own ys'))) (λb=>(if b=l then 1 else 0)+(((if b=m then 1 else 0)+p' b)+pb b)) (λb=>((if b=l then 1 else 0)+(((if b=m then 1 else 0)+p' b)+pb b))+p2 b) m0 (λb o z=>k0 b o (by omega)) (.own (k0 l _ (by simp;omega) hl) in1 λ_=>rfl) (λ_=>rfl)
   rw[Zdb e2] at z
   have s2:Same H0 (upd H m (.lst vs')):=s.updF (h4 m (by have:=e1 m;have:=tot m;omega))
   refine SR.of_le (p:=p) (q:=q) (p':=λb=>((if b=l then 1 else 0)+(((if b=m then 1 else 0)+p' b)+pb b))+p2 b) (q':=q2) s2 h3 h4 (λb=>?_) z (rs.monoS m0 hS λb o y=>k0 b o (by have:=eq b;omega))
   have:=l1 b;have:=em b;have:=tot b;have:=e1 b;have:=eq b
   show ((if b=l then 1 else 0)+(((if b=m then 1 else 0)+p' b)+pb b))+p2 b+q2 b<=p b+q b
   omega
end
section
variable {K:W.Frag}{E:FK}{X:Exc->Sl->Prop}{ρ:Sl}{Q:TV->Prop}{DV:VEnds}{te ti tj:TE}{i j:Int}{n:Nat}{r':R2}{t:TS}{a b:TV}
def Pu(K:W.Frag)(t:TE)(ρ:Sl)(Q:Int->Prop):Prop:=∀ (H0:Hp) (σ:St) (ts:List V) (as:List TV) (H:Hp) (QV:VK),SR K H0 σ ρ ts as H->(∀ i,Q i->QV (.int i) H)->t σ H QV
theorem Zn7{P:Int->Prop}(q:P i):Pu K (tC (.int i)) ρ P:=λH0 σ ts as H QV s k=>k i q
theorem Zmo{xs:List AV}(hi:ρ[n]?=some (some (.own xs)))(h:Ev K E X te ρ λa=>Ev K E X ti ρ λb=>∃ k j ys,b=.av (.d (.int k))/\ixN xs.length k=some j/\xs[j]?=some (.own ys)/\Pu K tj ρ λm=>∃ a' z,a.sto=some a'/\ixN ys.length m=some z/\DV.nx (ρ.set n (some (.own (xs.set j (.own (ys.set z a'))))))) :
  Sv K E X (tAsg te (gSub (tOp (rOr (rIxL K) r') (tVar n) ti) tj rSetA)) ρ DV:=λH0 σ ts as H D st s x f=>by
 refine h H0 σ ts as H _ s x λa h2 v H1 s1=>?_
 obtain⟨l,vs,e1,e2,e3,_⟩:=(s.push (x:=.none) λ_=>.non).write (xs':=xs) st hi
 refine⟨.ref l,e1,h2 H0 σ _ _ H1 _ s1 x λb ⟨k,j,ys,eb,hj,hy,h3⟩ w H2 s2=>.inl ?_⟩
 subst eb
 have ew:=s2.top_d.int_inv
 subst ew
 obtain⟨l',m',us,vs1,g1,g2,g3,g4,g5,g6,_⟩:=SR.write2 (v:=.non) (c:=.d .none) (ys':=ys) ((s2.pop.pop).push (x:=.none) λ_=>.non) st hi hy
 rw[e1] at g1
 cases g1
 refine⟨l,us,k,.ref m',rfl,rfl,SqL.of g2,?_,h3 H0 σ _ _ H2 _ s2.pop λm ⟨a',z,ea,hz,q⟩=>?_⟩
 ·unfold L2.atI
  rw[g3,hj]
  exact g4
 ·obtain⟨l2,m2,us2,vs2,k1,k2,k3,k4,k5,k6,k7⟩:=(s2.pop.sto ea).write2 (ys':=ys.set z a') st hi hy
  rw[e1] at k1
  cases k1
  rw[g2] at k2
  cases k2
  rw[g4] at k4
  cases k4
  exact .inl ⟨m',vs2,m,z,rfl,rfl,k5,by rw[k6];exact hz,f.nx _ q _ _ (k7 _ λG H p q r1 r2=>RAs.set r2 z r1)⟩
theorem Zn8{α:Type}[DecidableEq α]{f:α->PyData}{m:Nat}{c:α}{xs:List α}(F:Enc f m)(ha:a.data=f c)(hb:b.data=.list (xs.map f)\/b.data=.tuple (xs.map f))(q:Q (.av (.d (.bool (!decide (c∈xs))))))(na:NR a:=by first|exact NR.av|exact NR.bor)(nb:NR b:=by first|exact NR.av|exact NR.bor)(hm:m<=32:=by decide):Op K E X (rInA K true) a b Q:=λH0 σ ρ ts as H x y QV s _ k=>by
 have h1:=s.pop.top na
 have h2:=s.top nb
 rw[ha] at h1
 refine .inl ⟨f c,xs.map f,h1,(show _\/_ by rcases hb with e|e;exact .inl (e▸h2);exact .inr (e▸h2)),F.lay c,ZgJ F xs,Nat.le_trans (F.dep c) hm,?_⟩
 rw[if_pos rfl,Zhn F]
 exact k _ q _ H (s.pop.pop.bl _)
theorem ZpC{ds es:List PyData}(ha:a.data=.tuple ds)(hb:b.data=.tuple es)(ka:Kp a ds)(kb:Kp b es)(hz:ds.length+es.length<=1000000)(q:Q (.av (.d (.tuple (ds++es)))))(na:NR a:=by first|exact NR.av|exact NR.bor)(nb:NR b:=by first|exact NR.av|exact NR.bor):Op K E X (rPlus K) a b Q:=λH0 σ ρ ts as H x y QV s _ k=>by
 have kd:∀ {c:TV} {es:List PyData},NR c->c.data=.tuple es->Kp c es->∀ {z:V} {ts:List V} {as:List TV},SR K H0 σ ρ (z::ts) (c::as) H->SR K H0 σ ρ (z::ts) (.av (.d (.tuple es))::as) H:=λ{c es} nc hc kc {z ts as} s=>by
  rcases kc with e|e
  ·rw[hc] at e;rw[e] at s;exact s
  ·have hx:noLst (.tuple es)=true:=by simpa [noLst] using e
   exact s.pop.pushF hx (hc▸s.top nc)
 obtain⟨ys,⟨l2,e2,h2⟩,hl2,s2⟩:=s.items kb (λys=>∃ l,y=.ref l/\SqT K H l ys) (λG rp sm=>by
  rw[hb] at rp
  obtain⟨l,xs,e,h3,h4⟩:=rp.tuple_inv
  exact⟨xs,⟨l,e,sm.tupS h3⟩,h4⟩) nb
 have s3:SR K H0 σ ρ (x::(ys++ts)) (a::((es.map AV.d).map TV.av++as)) H:=SR.rot (by rw[List.length_map,List.length_map,hl2]) s2
 obtain⟨xs,⟨l1,e1,h1⟩,hl1,s4⟩:=s3.items ka (λys=>∃ l,x=.ref l/\SqT K H l ys) (λG rp sm=>by
  rw[ha] at rp
  obtain⟨l,xs,e,h3,h4⟩:=rp.tuple_inv
  exact⟨xs,⟨l,e,sm.tupS h3⟩,h4⟩) na
 by_cases hx:xs=[]
 ·subst hx
  have:ds=[]:=List.length_eq_zero_iff.mp (by rw[<- hl1];rfl)
  subst this
  refine .inr (.inr (.inr (.inr ⟨l1,l2,ys,e1,e2,h1,h2,?_⟩)))
  have z:=kd nb hb kb s
  have z2:=z.swap.pop
  rw[e2] at z2
  exact k _ q _ _ z2
 ·refine .inr (.inr (.inl ⟨l1,l2,xs,ys,e1,e2,h1,h2,hx,Nat.le_of_lt (small6 (by omega)),λey=>?_,λ_ p hp=>k _ q _ _ ?_⟩))
  ·subst ey
   have:es=[]:=List.length_eq_zero_iff.mp (by rw[<- hl2];rfl)
   subst this
   rw[List.append_nil] at q
   have z:=kd na ha ka s.pop
   rw[e1] at z
   exact k _ q _ _ z
  ·have s5:SR K H0 σ ρ ((xs++ys)++ts) (((ds++es).map AV.d).map TV.av++as) H:=by
    rw[List.append_assoc,List.map_append,List.map_append,List.append_assoc]
    exact s4
   have:=SR.newT s5 (by rw[List.length_append,List.length_map,List.length_append,hl1,hl2]) hp
   rw[ZgK] at this
   exact this
end
end VL
end
section
namespace VL
open PySem PySem.Spec L2
variable [Tabs]
section
variable {α:Type}[DecidableEq α]
structure KEnc(f:α->PyData):Prop where
 ex:(∃ g:α->Key,(∀ a b,g a=g b->a=b)/\∀ a,f a=keyD (g a))\/(∃ g:α->List Key,(∀ a b,g a=g b->a=b)/\∀ a,f a=.tuple ((g a).map keyD))\/∃ g:α->Key×List Key,(∀ a b,g a=g b->a=b)/\∀ a,f a=.tuple [keyD (g a).1,.tuple ((g a).2.map keyD)]
abbrev encD(f:α->PyData)(kvs:List (α×PyData)):List (PyData×PyData):=kvs.map λp=>(f p.1,p.2)
theorem KEnc.int:KEnc PyData.int:=⟨.inl ⟨Sum.inl,λ_ _ e=>Sum.inl.inj e,λ_=>rfl⟩⟩
abbrev dP(p:Int×Int):PyData:=.tuple [.int p.1,.int p.2]
theorem KEnc.pair:KEnc dP:=⟨.inr (.inl ⟨λp=>[.inl p.1,.inl p.2],λa b e=>by
 simp only[List.cons.injEq,Sum.inl.injEq,and_true] at e
 exact Prod.ext e.1 e.2,λ_=>rfl⟩)⟩
theorem ZcQ:∀ {a b:List Int},(a.map Sum.inl:List Key)=b.map Sum.inl->a=b
 | [],[],_=>rfl
 | [],_::_,e=>by simp at e
 | _::_,[],e=>by simp at e
 | x::a,y::b,e=>by
  simp only[List.map_cons,List.cons.injEq,Sum.inl.injEq] at e
  rw[e.1,ZcQ e.2]
theorem KEnc.ints:KEnc (λns:List Int=>PyData.tuple (ns.map .int)):=⟨.inr (.inl ⟨λns=>ns.map .inl,λa b e=>ZcQ e,λns=>by rw[List.map_map];rfl⟩)⟩
abbrev dQ(p:Int×List Int):PyData:=.tuple [.int p.1,.tuple (p.2.map .int)]
theorem KEnc.nest:KEnc dQ:=⟨.inr (.inr ⟨λp=>(.inl p.1,p.2.map .inl),λa b e=>by
 simp only[Prod.mk.injEq,Sum.inl.injEq] at e
 exact Prod.ext e.1 (ZcQ e.2),λp=>by rw[List.map_map];rfl⟩)⟩
theorem Zdd:∀ {a b:Key},keyD a=keyD b->a=b
 | .inl _,.inl _,e=>by cases e;rfl
 | .inr _,.inr _,e=>by cases e;rfl
theorem Zbz{k:Key}{l:List PyData}:keyD k≠.tuple l:=by cases k<;>exact λe=>nomatch e
theorem Zde{k:List Key}{x:PyData}{l:List PyData}:k.map keyD≠[x,.tuple l]:=λe=>by
 cases k with
 | nil=>simp at e
 | cons a k =>
  cases k with
  | nil=>simp at e
  | cons b k =>
   simp only[List.map_cons,List.cons.injEq] at e
   exact Zbz e.2.1
theorem Zdf:∀ {a b:List Key},a.map keyD=b.map keyD->a=b
 | [],[],_=>rfl
 | [],_::_,e=>by simp at e
 | _::_,[],e=>by simp at e
 | x::a,y::b,e=>by
  simp only[List.map_cons,List.cons.injEq] at e
  rw[Zdd e.1,Zdf e.2]
end
section
variable {K:W.Frag}{H:Hp}{α κ:Type}[DecidableEq α][DecidableEq κ]{g:α->κ}{en:κ->PyData}
abbrev PR(K:W.Frag)(H:Hp)(g:α->κ):List (κ×V)->List (α×PyData)->Prop:=Paired λp q=>p.1=g q.1/\Rep K H p.2 q.2
theorem Zex(he:∀ a b,en a=en b->a=b):∀ {ks:List (κ×V)} {ds:List PyData} {kvs:List (α×PyData)},encD (λa=>en (g a)) kvs=(ks.map λp=>en p.1).zip ds->Reps K H (ks.map Prod.snd) ds->PR K H g ks kvs
 | [],_,[],_,_=>.nil
 | [],_,_::_,e,_=>by simp at e
 | _::_,_,[],e,.cons _ _=>by simp at e
 | p::ks,d::ds,q::kvs,e,.cons r rs=>by
  simp only[encD,List.map_cons,List.zip_cons_cons,List.cons.injEq,Prod.mk.injEq] at e
  refine .cons ⟨(he _ _ e.1.1).symm,?_⟩ (Zex he e.2 rs)
  rw[e.1.2]
  exact r
theorem Zfe:∀ {ks:List (κ×V)} {kvs:List (α×PyData)},PR K H g ks kvs->Reps K H (ks.map Prod.snd) (kvs.map Prod.snd)
 | _,_,.nil=>.nil
 | _,_,.cons h t=>.cons h.2 (Zfe t)
theorem Zhu:∀ {ks:List (κ×V)} {kvs:List (α×PyData)},PR K H g ks kvs->encD (λa=>en (g a)) kvs=(ks.map λp=>en p.1).zip (kvs.map Prod.snd)
 | _,_,.nil=>rfl
 | p::ks,q::kvs,.cons h t=>by
  have ih:=Zhu t
  simp only[encD,List.map_cons,List.zip_cons_cons] at ih ⊢
  rw[ih,h.1]
theorem Zf7(hg:∀ a b,g a=g b->a=b){k:α}:∀ {ks:List (κ×V)} {kvs:List (α×PyData)},PR K H g ks kvs->(valV ks (g k)).isSome=(getA kvs k).isSome/\∀ y,getA kvs k=some y->∃ v,valV ks (g k)=some v/\Rep K H v y
 | _,_,.nil=>⟨rfl,λ_ z=>nomatch z⟩
 | p::ks,q::kvs,.cons h t=>by
  obtain⟨i1,i2⟩:=Zf7 hg (k:=k) t
  by_cases e:q.1=k
  ·have e':p.1=g k:=by rw[h.1,e]
   rw[Zc8 e']
   have:getA (q::kvs) k=some q.2:=by simp[getA,List.find?_cons,e]
   rw[this]
   exact⟨rfl,λy z=>by cases z;exact⟨_,rfl,h.2⟩⟩
  ·have e':¬ p.1=g k:=λz=>e (hg _ _ (h.1.symm.trans z))
   rw[Zc9 e']
   have:getA (q::kvs) k=getA kvs k:=by simp[getA,List.find?_cons,e]
   rw[this]
   exact⟨i1,i2⟩
theorem Zi9(hg:∀ a b,g a=g b->a=b){k:α}{v:V}{y:PyData}(rv:Rep K H v y){ks:List (κ×V)}{kvs:List (α×PyData)}(h:PR K H g ks kvs):PR K H g (putK ks (g k) v) (putA kvs k y):=by
 have e:=(Zf7 hg (k:=k) h).1
 unfold putK putA
 rw[ZdS,e]
 by_cases c:(getA kvs k).isSome=true
 ·rw[if_pos c,if_pos c]
  clear e c
  induction h with
  | nil=>exact .nil
  | @cons p q ps qs hh t ih =>
   refine .cons ?_ ih
   dsimp only
   by_cases e:q.1=k
   ·rw[if_pos e,if_pos (show p.1=g k by rw[hh.1,e])];exact⟨hh.1,rv⟩
   ·rw[if_neg e,if_neg (λz=>e (hg _ _ (hh.1.symm.trans z)))];exact hh
 ·rw[if_neg c,if_neg c]
  exact Paired.snoc h ⟨rfl,rv⟩
theorem Rep.kV{k:Key}{x:V}(h:Rep K H x (keyD k)):x=L2.kV k:=by
 cases k with
 | inl i=>exact h.int_inv
 | inr z=>cases (show Rep K H x (.str z) from h);rfl
theorem Reps.kVs:∀ {ks:List Key} {xs:List V},Reps K H xs (ks.map keyD)->xs=ks.map L2.kV
 | [],_,.nil=>rfl
 | k::ks,_,.cons r rs=>by rw[Rep.kV r,Reps.kVs rs];rfl
abbrev en3(k:Key×List Key):PyData:=.tuple [keyD k.1,.tuple (k.2.map keyD)]
theorem ZgL{a b:Key×List Key}(e:en3 a=en3 b):a=b:=by
 simp only[en3,PyData.tuple.injEq,List.cons.injEq,and_true] at e
 exact Prod.ext (Zdd e.1) (Zdf e.2)
theorem Rep.keyN{k:Key×List Key}{x:V}(h:Rep K H x (en3 k)):∃ b,x=.ref b/\KeyN H b k:=by
 obtain⟨b,xs,rfl,hb,hr⟩:=h.tuple_at
 cases hr with
 | cons r1 hr =>
  cases hr with
  | cons r2 hr =>
   cases hr
   have e1:=Rep.kV r1
   subst e1
   obtain⟨c,ys,rfl,hc,hs⟩:=r2.tuple_at
   have e2:=Reps.kVs hs
   subst e2
   exact⟨b,rfl,c,hb,hc⟩
theorem Zja{ks:List (κ×V)}{kvs:List (α×PyData)}(h:PR K H g ks kvs):ks.length=kvs.length:=Paired.length h
theorem Zbu{f:α->PyData}{en:κ->PyData}{ks:List (κ×V)}{ds:List PyData}{kvs:List (α×PyData)}(rs:Reps K H (ks.map Prod.snd) ds)(z:encD f kvs=(ks.map λp=>en p.1).zip ds)(hne:∀ a k,f a≠en k):kvs=[]/\ks=[]:=by
 have hl:(encD f kvs).length=ks.length:=by
  have:=rs.length
  rw[List.length_map] at this
  rw[z,List.length_zip,List.length_map]
  omega
 cases kvs with
 | nil=>exact⟨rfl,List.eq_nil_of_length_eq_zero hl.symm⟩
 | cons q kvs =>
  cases ks with
  | nil=>cases hl
  | cons k ks =>
   cases ds with
   | nil=>cases z
   | cons d ds=>exact absurd (congrArg (λl=>(l.headD (PyData.none,PyData.none)).1) z) (hne q.1 k.1)
theorem Zjb{k:Key}:keyD k≠.none:=by cases k<;>exact λe=>nomatch e
theorem Zff{f:α->PyData}(F:KEnc f){kvs:List (α×PyData)}{z:PyData}{l:List (PyData×PyData)}:encD f kvs≠(.none,z)::l:=λe=>by
 cases kvs with
 | nil=>cases e
 | cons q kvs =>
  have e:=congrArg (λl=>(l.headD (PyData.none,PyData.none)).1) e
  have e:f q.1=.none:=e
  rcases F.ex with⟨g,_,hf⟩|⟨g,_,hf⟩|⟨g,_,hf⟩
  ·exact Zjb ((hf _).symm.trans e)
  ·exact nomatch (hf _).symm.trans e
  ·exact nomatch (hf _).symm.trans e
theorem Zhv{G:Hp}{f:α->PyData}(F:KEnc f){kvs:List (α×PyData)}{x y:V}{c:α}(sm:Same G H)(hy:Rep K G y (.dict (encD f kvs)))(hx:Rep K H x (f c)) :
  ∃ a r,y=.ref a/\DGet0 H a x r/\r.isSome=(getA kvs c).isSome/\∀ z,getA kvs c=some z->∃ v,r=some v/\DGetA H a x r/\Rep K G v z:=by
 generalize hk:encD f kvs=l at hy
 cases hy with
 | exc _ z=>exact absurd (hk.trans z) (Zff F)
 | excF _ _ _ z=>exact absurd (hk.trans z) (Zff F)
 | junk=>exact absurd hk (Zff F)
 | @dK a ks ds _ hd rs z =>
  have z:=hk.trans z
  clear hk
  rcases F.ex with⟨g,hg,hf⟩|⟨g,hg,hf⟩|⟨g,hg,hf⟩
  ·cases show f=λa=>keyD (g a) from funext hf
   cases Rep.kV hx
   obtain⟨h1,h2⟩:=Zf7 hg (k:=c) (Zex (λ_ _=>Zdd) z rs)
   exact⟨a,valV ks (g c),rfl,.inl (.inl ⟨ks,g c,sm.rd hd,rfl,rfl⟩),h1,λz hz=>let ⟨v,e1,e2⟩:=h2 z hz;⟨v,e1,.inl (.inl ⟨ks,g c,sm.rd hd,rfl,rfl⟩),e2⟩⟩
  ·cases show f=λa=>.tuple ((g a).map keyD) from funext hf
   obtain⟨b,xs,rfl,hb,hr⟩:=hx.tuple_at
   cases Reps.kVs hr
   obtain⟨rfl,rfl⟩:=Zbu rs z λ_ _=>Ne.symm Zbz
   exact⟨a,none,rfl,.inr (.inr (.inl ⟨rfl,⟨g c,b,rfl,hb⟩,sm.rd hd⟩)),rfl,λ_ z=>nomatch z⟩
  ·cases show f=λa=>en3 (g a) from funext hf
   obtain⟨b,rfl,kn⟩:=Rep.keyN hx
   obtain⟨rfl,rfl⟩:=Zbu rs z λ_ _=>Ne.symm Zbz
   exact⟨a,none,rfl,.inr (.inr (.inr (.inr ⟨rfl,⟨g c,b,rfl,kn⟩,.inl (sm.rd hd)⟩))),rfl,λ_ z=>nomatch z⟩
 | @dT a ks ds _ hd rs z =>
  have z:=hk.trans z
  clear hk
  rcases F.ex with⟨g,hg,hf⟩|⟨g,hg,hf⟩|⟨g,hg,hf⟩
  ·cases show f=λa=>keyD (g a) from funext hf
   cases Rep.kV hx
   obtain⟨rfl,rfl⟩:=Zbu (en:=λk=>PyData.tuple (k.map keyD)) rs z λ_ _=>Zbz
   exact⟨a,none,rfl,.inr (.inl ⟨rfl,⟨g c,rfl⟩,sm.rd hd⟩),rfl,λ_ z=>nomatch z⟩
  ·cases show f=λa=>.tuple ((g a).map keyD) from funext hf
   obtain⟨b,xs,rfl,hb,hr⟩:=hx.tuple_at
   cases Reps.kVs hr
   obtain⟨h1,h2⟩:=Zf7 hg (k:=c) (Zex (en:=λk=>PyData.tuple (k.map keyD)) (λ_ _ e=>Zdf (PyData.tuple.inj e)) z rs)
   exact⟨a,valV ks (g c),rfl,.inl (.inr ⟨ks,g c,b,sm.rd hd,rfl,hb,rfl⟩),h1,λz hz=>let ⟨v,e1,e2⟩:=h2 z hz;⟨v,e1,.inl (.inr ⟨ks,g c,b,sm.rd hd,rfl,hb,rfl⟩),e2⟩⟩
  ·cases show f=λa=>en3 (g a) from funext hf
   obtain⟨b,rfl,kn⟩:=Rep.keyN hx
   obtain⟨rfl,rfl⟩:=Zbu (en:=λk=>PyData.tuple (k.map keyD)) rs z λ_ _ e=>Zde (PyData.tuple.inj e).symm
   exact⟨a,none,rfl,.inr (.inr (.inr (.inr ⟨rfl,⟨g c,b,rfl,kn⟩,.inr (sm.rd hd)⟩))),rfl,λ_ z=>nomatch z⟩
 | @dN a ks ds _ ne hd rs z =>
  have z:=hk.trans z
  clear hk
  rcases F.ex with⟨g,hg,hf⟩|⟨g,hg,hf⟩|⟨g,hg,hf⟩
  ·cases show f=λa=>keyD (g a) from funext hf
   exact absurd (Zbu (en:=en3) rs z λ_ _=>Zbz).2 ne
  ·cases show f=λa=>.tuple ((g a).map keyD) from funext hf
   exact absurd (Zbu (en:=en3) rs z λ_ _ e=>Zde (PyData.tuple.inj e)).2 ne
  ·cases show f=λa=>en3 (g a) from funext hf
   obtain⟨b,rfl,kn⟩:=Rep.keyN hx
   obtain⟨h1,h2⟩:=Zf7 hg (k:=c) (Zex (en:=en3) (λ_ _=>ZgL) z rs)
   exact⟨a,valV ks (g c),rfl,.inr (.inr (.inr (.inl ⟨_,g c,b,sm.rd hd,rfl,kn,rfl⟩))),h1,λz hz=>let ⟨v,e1,e2⟩:=h2 z hz;⟨v,e1,.inr ⟨_,g c,b,sm.rd hd,rfl,kn,rfl⟩,e2⟩⟩
theorem Zjc{f:α->PyData}(F:KEnc f){kvs:List (α×PyData)}{o:HO}{x v:V}{c:α}(hd:DicAt K H o (encD f kvs))(hx:Rep K H x (f c))(hl:kvs.length<=1000000) :
  ∃ o',(∀ a,H a=some o->DPut0 H a x v (upd H a o'))/\Mu o'/\∀ G y,DicAt K G o (encD f kvs)->Rep K G v y->DicAt K G o' (encD f (putA kvs c y)):=by
 rcases F.ex with⟨g,hg,hf⟩|⟨g,hg,hf⟩|⟨g,hg,hf⟩
 ·cases show f=λa=>keyD (g a) from funext hf
  cases Rep.kV hx
  rcases hd with⟨ks,ds,rfl,rs,z⟩|⟨ks,ds,rfl,rs,z⟩|⟨ks,ds,ne,rfl,rs,z⟩
  ·have p:=Zex (λ_ _=>Zdd) z rs
   refine⟨.dK (putK ks (g c) v),λa ha=>.inl (DPut.k ha (small6 (by rw[Zja p];exact hl))),trivial,λG y hd' rv=>?_⟩
   clear z rs hx
   rcases hd' with⟨ks',ds',e,rs',z'⟩|⟨ks',ds',e,rs',z'⟩|⟨ks',ds',_,e,rs',z'⟩
   ·cases HO.dK.inj e
    have p':=Zi9 hg (k:=c) rv (Zex (λ_ _=>Zdd) z' rs')
    exact .inl ⟨_,_,rfl,Zfe p',Zhu p'⟩
   ·exact nomatch e
   ·exact nomatch e
  ·obtain⟨rfl,rfl⟩:=Zbu (en:=λk=>PyData.tuple (k.map keyD)) rs z λ_ _=>Zbz
   exact⟨.dK [(g c,v)],λa ha=>.inr (.inl ⟨g c,rfl,ha,rfl⟩),trivial,λG y _ rv=>.inl ⟨[(g c,v)],[y],rfl,.cons rv .nil,rfl⟩⟩
  ·exact absurd (Zbu (en:=en3) rs z λ_ _=>Zbz).2 ne
 ·cases show f=λa=>.tuple ((g a).map keyD) from funext hf
  obtain⟨b,xs,rfl,hb,hr⟩:=hx.tuple_at
  cases Reps.kVs hr
  clear hx hr
  rcases hd with⟨ks,ds,rfl,rs,z⟩|⟨ks,ds,rfl,rs,z⟩|⟨ks,ds,ne,rfl,rs,z⟩
  ·obtain⟨rfl,rfl⟩:=Zbu rs z λ_ _=>Ne.symm Zbz
   exact⟨.dT [(g c,v)],λa ha=>.inr (.inr (.inl ⟨g c,b,rfl,hb,ha,rfl⟩)),trivial,λG y _ rv=>.inr (.inl ⟨[(g c,v)],[y],rfl,.cons rv .nil,rfl⟩)⟩
  ·have hen:∀ a b:List Key,PyData.tuple (a.map keyD)=.tuple (b.map keyD)->a=b:=λ_ _ e=>Zdf (PyData.tuple.inj e)
   have p:=Zex (en:=λk=>PyData.tuple (k.map keyD)) hen z rs
   refine⟨.dT (putK ks (g c) v),λa ha=>.inl (DPut.t ha hb (small6 (by rw[Zja p];exact hl))),trivial,λG y hd' rv=>?_⟩
   clear z rs
   rcases hd' with⟨ks',ds',e,rs',z'⟩|⟨ks',ds',e,rs',z'⟩|⟨ks',ds',_,e,rs',z'⟩
   ·exact nomatch e
   ·cases HO.dT.inj e
    have p':=Zi9 hg (k:=c) rv (Zex (en:=λk=>PyData.tuple (k.map keyD)) hen z' rs')
    exact .inr (.inl ⟨_,_,rfl,Zfe p',Zhu (en:=λk=>PyData.tuple (k.map keyD)) p'⟩)
   ·exact nomatch e
  ·exact absurd (Zbu (en:=en3) rs z λ_ _ e=>Zde (PyData.tuple.inj e)).2 ne
 ·cases show f=λa=>en3 (g a) from funext hf
  obtain⟨b,rfl,kn⟩:=Rep.keyN hx
  clear hx
  rcases hd with⟨ks,ds,rfl,rs,z⟩|⟨ks,ds,rfl,rs,z⟩|⟨ks,ds,ne,rfl,rs,z⟩
  ·obtain⟨rfl,rfl⟩:=Zbu rs z λ_ _=>Ne.symm Zbz
   exact⟨.dN [(g c,v)],λa ha=>.inr (.inr (.inr (.inr ⟨g c,b,rfl,kn,.inl ha,rfl⟩))),trivial,λG y _ rv=>.inr (.inr ⟨[(g c,v)],[y],(λz=>nomatch z),rfl,.cons rv .nil,rfl⟩)⟩
  ·obtain⟨rfl,rfl⟩:=Zbu (en:=λk=>PyData.tuple (k.map keyD)) rs z λ_ _ e=>Zde (PyData.tuple.inj e).symm
   exact⟨.dN [(g c,v)],λa ha=>.inr (.inr (.inr (.inr ⟨g c,b,rfl,kn,.inr ha,rfl⟩))),trivial,λG y _ rv=>.inr (.inr ⟨[(g c,v)],[y],(λz=>nomatch z),rfl,.cons rv .nil,rfl⟩)⟩
  ·have p:=Zex (en:=en3) (λ_ _=>ZgL) z rs
   refine⟨.dN (putK ks (g c) v),λa ha=>.inr (.inr (.inr (.inl ⟨ks,g c,b,ha,rfl,kn,small6 (by rw[Zja p];exact hl),rfl⟩))),trivial,λG y hd' rv=>?_⟩
   rcases hd' with⟨ks',ds',e,rs',z'⟩|⟨ks',ds',e,rs',z'⟩|⟨ks',ds',ne',e,rs',z'⟩
   ·cases e
   ·cases e
   ·cases e
    have p':=Zi9 hg (k:=c) rv (Zex (en:=en3) (λ_ _=>ZgL) z' rs')
    refine .inr (.inr ⟨_,_,λw=>ne ?_,rfl,Zfe p',Zhu (en:=en3) p'⟩)
    have:=congrArg List.length w
    unfold putK at this
    split at this
    ·rw[List.length_map] at this;exact List.length_eq_zero_iff.mp this
    ·simp at this
end
section
variable {K:W.Frag}{G H H0:Hp}{σ:St}{ρ:Sl}{ts:List V}{as:List TV}{v y:V}{b:TV}
theorem SR.writeD{i:Nat}{kvs kvs':List (PyData×PyData)}{z:PyData}(h:SR K H0 σ ρ (v::ts) (.av (.d z)::as) H)(hS:Stb as)(hi:ρ[i]?=some (some (.dic kvs))) :
  ∃ l o,σ[i]?=some (some (.ref l))/\H l=some o/\DicAt K H o kvs/\∀ o',Mu o'->(∀ G,DicAt K G o kvs->Rep K G v z->DicAt K G o' kvs')->SR K H0 σ (ρ.set i (some (.dic kvs'))) ts as (upd H l o'):=by
 obtain⟨⟨p,q,h1,h2,h3,h4⟩,s⟩:=h
 obtain⟨p1,p2,w,e1,e2,e3,e4⟩:=h1.frz hi λ_ _ _ _=>trivial
 cases h2 with
 | @cons _ _ _ _ q1 q2 _ r rs eq =>
  cases r with
  | av r =>
  cases r with
  | d rp eqz =>
  cases e3 with
  | @dic l o _ _ hl hd ep =>
   refine⟨l,o,e2,hl,hd.mono Zbg,λo' mu hw=>?_⟩
   have hpl:p1 l=1:=by have:=ep l;simpa using this
   have ne:∀ b u,p b+q b=0->H b=some u->b≠l:=λb u z _ y=>by subst y;have:=e1 b;omega
   have m0:Same (hid H p q) (hid (upd H l o') p q):=ZcP λb u z w=>⟨z,ne b u z w⟩
   have k2:∀ b u,0<q b+p2 b->H b=some u->upd H l o' b=some u:=λb u z w=>by
    rw[Zah (λy=>by subst y;have:=h3 b;have:=e1 b;omega)];exact w
   have z:=e4 (hid (upd H l o') p q) (upd H l o') (.ref l) (.dic kvs') (λb=>if b=l then 1 else 0) (λb=>(if b=l then 1 else 0)+p2 b) m0 (λb u y=>k2 b u (by omega)) (.dic Zak (hw _ (hd.mono m0) (rp.same m0)) λ_=>rfl) (λ_=>rfl)
   rw[Zdb e2] at z
   have s2:Same H0 (upd H l o'):=s.updF (h4 l (by have:=e1 l;omega))
   refine SR.of_le (p:=p) (q:=q) (p':=λb=>(if b=l then 1 else 0)+p2 b) (q':=q2) s2 h3 h4 (λb=>?_) z (rs.monoS m0 hS λb o y=>k2 b o (by have:=eq b;omega))
   have:=ep b;have:=e1 b;have:=eq b
   show (if b=l then 1 else 0)+p2 b+q2 b<=p b+q b
   omega
theorem SR.newD{l:Addr}(h:SR K H0 σ ρ ts as H)(hl:H l=none):SR K H0 σ ρ (.ref l::ts) (.av (.dic [])::as) (upd H l (.dK [])):=by
 obtain⟨⟨p,q,h1,h2,h3,h4⟩,s⟩:=h
 have hL:=SR.lsts h1 h2
 have z:∀ b u,H b=some u->b≠l:=λb u y w=>by subst w;rw[hl] at y;cases y
 have zl:p l+q l=0:=by
  rcases Nat.eq_zero_or_pos (p l+q l) with w|w
  ·exact w
  ·obtain⟨_,w,_⟩:=hL l w;rw[hl] at w;cases w
 have m:Same (hid H p q) (hid (upd H l (.dK [])) p (λb=>(if b=l then 1 else 0)+q b)):=ZcP λb u y w=>by
  have:=z b u w
  refine⟨?_,this⟩
  show p b+((if b=l then 1 else 0)+q b)=0
  rw[if_neg this]
  omega
 have mo:∀ b u,H b=some u->upd H l (.dK []) b=some u:=λb u y=>by rw[Zah (z b u y)];exact y
 have s2:Same H (upd H l (.dK [])):=Zba hl
 refine⟨⟨p,λb=>(if b=l then 1 else 0)+q b,h1.mono m (λb o _=>mo b o),.cons (.av (.dic Zak (.inl ⟨[],[],rfl,.nil,rfl⟩) λ_=>rfl)) (h2.mono m s2) (λ_=>rfl),λb=>?_,λb w=>?_⟩,s.trans s2⟩
 ·have:=h3 b
  by_cases hb:b=l
  ·subst hb;simp;omega
  ·simp[hb];omega
 ·by_cases hb:b=l
  ·subst hb;exact s.free hl
  ·refine h4 b ?_;simp[hb] at w;omega
end
section
variable {K:W.Frag}{E:FK}{X:Exc->Sl->Prop}{ρ:Sl}{Q:TV->Prop}{DV:VEnds}{te ti:TE}{n:Nat}{r:R2}{a b:TV}
theorem Zmp(q:Q (.av (.dic []))):Ev K E X tDNewK ρ Q:=λH0 σ ts as H QV s x k=>λp hp=>k _ q _ _ (s.newD hp)
theorem Zjd{α:Type}[DecidableEq α]{f:α->PyData}{c:α}{kvs:List (α×PyData)}(F:KEnc f)(ha:a.data=f c)(hb:b.data=.dict (encD f kvs))(q:Q (.av (.d (.bool (!(getA kvs c).isSome)))))(na:NR a:=by first|exact NR.av|exact NR.bor)(nb:NR b:=by first|exact NR.av|exact NR.bor):Op K E X (rInA K true) a b Q:=λH0 σ ρ ts as H x y QV s _ k=>by
 have h1:=s.pop.top na
 have h2:=s.top nb
 rw[ha] at h1
 rw[hb] at h2
 obtain⟨l,r,rfl,g,e,_⟩:=Zhv F (.refl H) h2 h1
 refine .inr (.inl ⟨l,r,rfl,g,?_⟩)
 rw[if_pos rfl,e]
 exact k _ q _ H (s.pop.pop.bl _)
theorem Zmq{α:Type}[DecidableEq α]{f:α->PyData}{c:α}{kvs:List (α×PyData)}{z:PyData}{d:TV}(F:KEnc f)(ha:a.data=.dict (encD f kvs))(hb:b.data=f c)(e:getA kvs c=some z)(it:Item a z d)(q:Q d)(na:NR a:=by first|exact NR.av|exact NR.bor)(nb:NR b:=by first|exact NR.av|exact NR.bor):Op K E X (rIdx K) a b Q:=λH0 σ ρ ts as H x y QV s _ k=>by
 have h1:=s.top nb
 rw[hb] at h1
 obtain⟨v,⟨l,e1,e2⟩,s'⟩:=s.pop.item na it (λv=>∃ l,x=.ref l/\DGetA H l y (some v)) λG rp sm=>by
  rw[ha] at rp
  obtain⟨l,r,e1,_,_,g⟩:=Zhv F sm rp h1
  obtain⟨v,e2,e3,e4⟩:=g z e
  subst e2
  exact⟨v,⟨l,e1,e3⟩,e4⟩
 exact .inr (.inr (.inr ⟨l,v,e1,e2,k _ q _ H s'⟩))
theorem Zje{α:Type}[DecidableEq α]{f:α->PyData}{kvs:List (α×PyData)}(F:KEnc f)(hi:ρ[n]?=some (some (.dic (encD f kvs))))(hz:kvs.length<=1000000)(h:Ev K E X te ρ λa=>Ev K E X ti ρ λb=>∃ z c,a.sto=some (.d z)/\b.data=f c/\NR b/\DV.nx (ρ.set n (some (.dic (encD f (putA kvs c z)))))) :
  Sv K E X (tAsg te (gSub (tVar n) ti rSetA)) ρ DV:=λH0 σ ts as H D st s x fi=>by
 refine h H0 σ ts as H _ s x λa h2 v H1 s1=>?_
 obtain⟨l,o,e1,e2,e3,_⟩:=(s.push (x:=.none) λ_=>.non).writeD (kvs':=encD f kvs) st hi
 refine⟨.ref l,e1,h2 H0 σ _ _ H1 _ s1 x λb ⟨z,c,ea,eb,nb,q⟩ w H2 s2=>.inr ?_⟩
 have hx:=s2.top nb
 rw[eb] at hx
 obtain⟨l',o',k1,k2,k3,k4⟩:=(s2.pop.sto ea).writeD (kvs':=encD f (putA kvs c z)) st hi
 rw[e1] at k1
 cases k1
 obtain⟨o2,p1,p2,p3⟩:=Zjc (v:=v) F k3 hx hz
 exact⟨l,_,rfl,p1 l k2,fi.nx _ q _ _ (k4 o2 p2 λG hd rv=>p3 G z hd rv)⟩
end
end VL
end
section
namespace VL
open PySem PySem.Spec PyProof.Rows L2
variable [Tabs]
def Z0:Fp:=λ_=>0
def spR(K:W.Frag)(Pre:List AV->Prop)(Post:List AV->AV->Prop)(PX:List AV->Exc->Prop):Sp:=λvs H Q E=>TabsIn H /\
 ∃ as,RAs K H H vs as Z0/\Pre as/\(∀ c,Post as c->∀ v H',Rs K H H' v c->Q v H')/\∀ e,PX as e->∀ c d H',Same H H'->XRep K H' e c d->E c d H'
def NP:List AV->Exc->Prop:=λ_ _=>False
abbrev inA(N:List Str)(as:List AV):Sl:=as.map some++List.replicate (N.length-as.length) none
abbrev finR(Post:AV->Prop):VEnds:=⟨λ_=>Post (.d .none),λa=>∃ c,Res a c/\Post c,λ_=>False,λ_=>False⟩
section
variable {K:W.Frag}{H H0:Hp}{σ:L2.St}{ρ:Sl}{ts:List V}{as:List TV}
theorem SR.startA{N:List Str}{vs:List V}{cs:List AV}(h:RAs K H H vs cs Z0):SR K H (L2.start N vs) (inA N cs) [] [] H:=by
 have hl:=h.len
 have hid0:hid H (λ_=>0) (λ_=>0)=H:=by funext b;simp[hid]
 refine⟨⟨λ_=>0,λ_=>0,?_,.nil λ_=>rfl,λ_=>by simp,λb z=>by simp at z⟩,.refl H⟩
 rw[hid0]
 unfold L2.start inA
 rw[hl]
 clear hl
 generalize N.length-cs.length=m
 have gen:∀ {vs:List V} {cs:List AV} {p:Fp},RAs K H H vs cs p->(∀ b,p b=0)->RSl K H H (vs.map some++List.replicate m none) (cs.map some++List.replicate m none) λ_=>0:=by
  intro vs cs
  induction vs generalizing cs with
  | nil =>
   intro p r _
   cases r
   simp only[List.map_nil,List.nil_append]
   clear h
   induction m with
   | zero=>exact .nil λ_=>rfl
   | succ m ih=>exact .no ih
  | cons v vs ih =>
   intro p r z
   cases r with
   | @cons _ _ _ _ p1 q1 _ r rs e =>
    have z1:∀ b,p1 b=0:=λb=>by have:=e b;have:=z b;omega
    have z2:∀ b,q1 b=0:=λb=>by have:=e b;have:=z b;omega
    exact .so r (ih rs z2) λb=>by simp[z1 b]
 exact gen h λ_=>rfl
theorem bodyR{t:TS}{N:List Str}{Pre:List AV->Prop}{Post:List AV->AV->Prop}{PX:List AV->Exc->Prop}{vs:List V}{Qv:VK}{E:XK}(sp:spR K Pre Post PX vs H Qv E)
  (h:∀ cs,Pre cs->Sv K (toF E) (λe _=>PX cs e) t (inA N cs) (finR (Post cs))):t { nx:=λ_ H'=>Qv .non H',rt:=Qv } (L2.start N vs) H:=by
 obtain⟨tb,cs,rp,pre,q,qx⟩:=sp
 refine h cs pre H _ [] [] H _ Stb.nil (SR.startA rp) ⟨λe ρ z c d σ H' s xr=>qx e z c d H' s.same xr,tb⟩ ⟨λρ z σ' H' s'=>?_,λ_ z=>z.elim,λ_ z=>z.elim,λa ⟨c,r,z⟩ v σ' ρ' H' s'=>?_⟩
 ·exact q _ z _ _ (SR.rs (v:=.non) (s'.push λ_=>.non))
 ·rcases r with rfl|⟨nr,rfl⟩
  ·exact q _ z _ _ s'.rs
  ·refine q _ z _ _ ⟨s'.same,λ_=>0,λ_=>by simp,λb z=>by simp at z,.d ?_ λ_=>rfl⟩
   have hid0:hid H' (λ_=>0) (λ_=>0)=H':=by funext b;simp[hid]
   rw[hid0]
   exact s'.top nr
inductive Sh:TV->AV->Prop
 | d {b:TV} {x:PyData}:NR b->b.data=x->Sh b (.d x)
 | o {φ:V->Hp->Prop}:Sh (.av (.obj φ)) (.obj φ)
inductive Shs:List TV->List AV->Prop
 | nil:Shs [] []
 | cons {b:TV} {c:AV} {bs:List TV} {cs:List AV}:Sh b c->Shs bs cs->Shs (b::bs) (c::cs)
theorem SR.lent:∀ {vs:List V} {bs:List TV} {cs:List AV},Shs bs cs->vs.length=bs.length->SR K H0 σ ρ (vs++ts) (bs++as) H->RAs K H H vs cs Z0/\SR K H0 σ ρ ts as H
 | [],_,_,.nil,_,s=>⟨.nil λ_=>rfl,s⟩
 | [],_,_,.cons _ _,e,_=>by simp at e
 | v::vs,_,_,.nil,e,_=>by simp at e
 | v::vs,b::bs,c::cs,.cons h t,e,s=>by
  have s':SR K H0 σ ρ (v::(vs++ts)) (b::(bs++as)) H:=s
  obtain⟨r,s2⟩:=SR.lent t (by simpa using e) s'.pop
  refine⟨.cons (p:=Z0) (q:=Z0) ?_ r λ_=>rfl,s2⟩
  cases h with
  | d nr ed=>exact .d (ed▸s'.top nr) λ_=>rfl
  | o =>
   obtain⟨⟨p,q,h1,h2,h3,h4⟩,sm⟩:=s'
   cases h2 with
   | cons r rs e=>cases r with
    | av r=>cases r with
     | obj h m z=>exact .obj (m _ _ Zbg h) m λ_=>rfl
end
section
variable {P:Program}{w:World}{K:W.Frag}{mg:Str->Option Value}{base:Heap}{CX:CXT}{x:Str}{st:Stmt}{N ps:List Str}{dvss:List (List V)}{k:Nat}{Pre:List AV->Prop}{Post:List AV->AV->Prop}{PX:List AV->Exc->Prop}
theorem Zd6{vs:List V}{H:Hp}{Q:VK}{E:XK}{n:Nat}(h:spR K Pre Post PX vs H Q E)(hS:∀ cs,Pre cs->cs.length=n):vs.length=n:=by
 obtain⟨_,cs,r,pre,_⟩:=h
 rw[r.len];exact hS cs pre
theorem valR(T:Tx K mg x st ps dvss)(Sc:FnScope N ps (defScope st))(hS:∀ cs,Pre cs->cs.length=ps.length)
  (hbody:∀ (f:Addr) (cdv:Value) (A:Around) (outer:List Env) (s:Shared) (H:Hp) (E:XK),Room k (A.deeper (envOfC x (defScope st) s.heap.objs.size f cdv)) ->
   ∃ t,PSs (cxOf CX P w K mg base N x (defScope st) f cdv A outer s H E).nox (defBody st) t/\∀ cs,Pre cs->Sv K (toF E) NE t (inA N cs) (finR (Post cs))) :
  ∀ dvs∈dvss,Cal P w K mg base CX (k+1) x ps dvs (spR K Pre Post NP) :=
 T.cal (k:=k) Sc (λvs H Q E h=>Zd6 h hS) λf cdv A outer s H vs Q E hr h =>
  let ⟨t,h1,h2⟩:=hbody f cdv A outer s H E hr
  ⟨t,h1,bodyR h λcs pre=>h2 cs pre⟩
end
section
variable {K:W.Frag}{E:FK}{X:Exc->Sl->Prop}{ρ:Sl}{Q:TV->Prop}{a:TV}{Pre:List AV->Prop}{Post:List AV->AV->Prop}{PX:List AV->Exc->Prop}
def ClR(Pre:List AV->Prop)(Post:List AV->AV->Prop)(PX:List AV->Exc->Prop)(dds:List AV)(Q:TV->Prop)(X:Exc->Prop)(bs:List TV):Prop :=
 ∃ cs,Shs bs cs/\Pre (cs++dds)/\(∀ c,Post (cs++dds) c->∃ a,Got c a/\Q a)/\∀ e,PX (cs++dds) e->X e
theorem RAs.app{H:Hp}:∀ {vs ws:List V} {xs ys:List AV},RAs K H H vs xs Z0->RAs K H H ws ys Z0->RAs K H H (vs++ws) (xs++ys) Z0:=by
 intro vs ws xs ys h g
 have gen:∀ {vs:List V} {xs:List AV} {p:Fp},RAs K H H vs xs p->(∀ b,p b=0)->RAs K H H (vs++ws) (xs++ys) Z0:=by
  intro vs
  induction vs with
  | nil=>intro xs p r _;cases r;exact g
  | cons v vs ih =>
   intro xs p r z
   cases r with
   | @cons _ _ _ _ p1 q1 _ r rs e =>
    have z1:∀ b,p1 b=0:=λb=>by have:=e b;have:=z b;omega
    have z2:∀ b,q1 b=0:=λb=>by have:=e b;have:=z b;omega
    exact .cons r (ih rs z2) λb=>by simp[Z0,z1 b]
 exact gen h λ_=>rfl
theorem Zjf{H:Hp}:RAs K H H [] [] Z0:=.nil λ_=>rfl
theorem ZpD{dvs:List V}{dds:List AV}{A:TA}{E':XK}(hd:∀ H,RAs K H H dvs dds Z0)(h:Ea K E X A ρ (ClR Pre Post NP dds Q λ_=>True)):Ev K E X (tCall (spR K Pre Post NP) dvs E' A) ρ Q:=λH0 σ ts as H QV s x k =>
 h H0 σ ts as H _ s x λbs ⟨cs,sh,pre,q,_⟩ vs H' s' hl=>by
  obtain⟨rp,s2⟩:=SR.lent sh hl s'
  exact⟨x.t.same s2.same,cs++dds,rp.app (hd H'),pre,λc hc v H2 r=>let ⟨a,g,z⟩:=q c hc;k a z v H2 (s2.gotG r g),λe z=>z.elim⟩
theorem ZpE{A:TA}{E':XK}(h:Ea K E X A ρ (ClR Pre Post NP [] Q λ_=>True)):Ev K E X (tCall (spR K Pre Post NP) [] E' A) ρ Q:=ZpD (λ_=>Zjf) h
end
end VL
end
section
namespace VL
open PySem PySem.Spec L2
variable [Tabs]
section
variable {K:W.Frag}{E:FK}{X:Exc->Sl->Prop}{Q:TV->Prop}{nx bk ct:Sl->Prop}{rt:TV->Prop}{te ti tj:TE}{r:Sl}{a:AV}{n:Nat}{ρ:Sl}{r':R2}
theorem ZcR{φ:V->Hp->Prop}(h:ρ[n]?=some (some (.obj φ)))(q:Q (.av (.obj φ))):Ev K E X (tVar n) ρ Q:=λH0 σ ts as H QV s _ k=>by
 have s0:=s
 obtain⟨⟨p,q',h1,h2,h3,h4⟩,e⟩:=s
 obtain⟨p1,p2,v,e1,e2,e3,e4⟩:=h1.frz h λ_ _ _ _=>trivial
 refine⟨v,e2,k _ q v H ⟨⟨p,q',h1,?_,h3,h4⟩,e⟩⟩
 cases e3 with
 | obj g m z=>exact .cons (.av (.obj (p:=λ_=>0) g m λ_=>rfl)) h2 λb=>by simp
theorem ZpF{s0:Option AV}{kvs:List (PyData×PyData)}(q:Q (.bor (.dict kvs))):Ev K E X (tVar 1) (s0::some (.dic kvs)::r) Q:=Zcj rfl q
theorem ZlD{s0:Option AV}{α:Type}[DecidableEq α]{f:α->PyData}{kvs:List (α×PyData)}(F:KEnc f)(hz:kvs.length<=1000000)(h:Ev K E X te (s0::some (.dic (encD f kvs))::r) λa=>Ev K E X ti (s0::some (.dic (encD f kvs))::r) λb=>∃ z c,a.sto=some (.d z)/\b.data=f c/\NR b/\nx (s0::some (.dic (encD f (putA kvs c z)))::r)):Sv K E X (tAsg te (gSub (tVar 1) ti rSetA)) (s0::some (.dic (encD f kvs))::r) ⟨nx,rt,bk,ct⟩:=Zje (n:=1) F rfl hz h
theorem ZpG{s0 s1:Option AV}{φ:V->Hp->Prop}(q:Q (.av (.obj φ))):Ev K E X (tVar 2) (s0::s1::some (.obj φ)::r) Q:=ZcR rfl q
theorem ZpH{s0 s1 s2:Option AV}{φ:V->Hp->Prop}(q:Q (.av (.obj φ))):Ev K E X (tVar 3) (s0::s1::s2::some (.obj φ)::r) Q:=ZcR rfl q
theorem ZpI{s0 s1 s2 s3:Option AV}{φ:V->Hp->Prop}(q:Q (.av (.obj φ))):Ev K E X (tVar 4) (s0::s1::s2::s3::some (.obj φ)::r) Q:=ZcR rfl q
theorem ZpJ{s0 s1 s2 s3 s4:Option AV}{kvs:List (PyData×PyData)}(q:Q (.bor (.dict kvs))):Ev K E X (tVar 5) (s0::s1::s2::s3::s4::some (.dic kvs)::r) Q:=Zcj rfl q
theorem ZpK{s0 s1 s2 s3 s4:Option AV}{φ:V->Hp->Prop}(q:Q (.av (.obj φ))):Ev K E X (tVar 5) (s0::s1::s2::s3::s4::some (.obj φ)::r) Q:=ZcR rfl q
theorem Zn9{s0 s1 s2 s3 s4:Option AV}{xs:List AV}(h:Ev K E X te (s0::s1::s2::s3::s4::some (.own xs)::r) λa=>Ev K E X ti (s0::s1::s2::s3::s4::some (.own xs)::r) λb=>∃ k j ys,b=.av (.d (.int k))/\ixN xs.length k=some j/\xs[j]?=some (.own ys)/\Pu K tj (s0::s1::s2::s3::s4::some (.own xs)::r) λm=>∃ a' z,a.sto=some a'/\ixN ys.length m=some z/\nx (s0::s1::s2::s3::s4::some (.own (xs.set j (.own (ys.set z a'))))::r)):Sv K E X (tAsg te (gSub (tOp (rOr (rIxL K) r') (tVar 5) ti) tj rSetA)) (s0::s1::s2::s3::s4::some (.own xs)::r) ⟨nx,rt,bk,ct⟩:=Zmo (n:=5) rfl h
theorem Zoa{s0 s1 s2 s3 s4:Option AV}{α:Type}[DecidableEq α]{f:α->PyData}{kvs:List (α×PyData)}(F:KEnc f)(hz:kvs.length<=1000000)(h:Ev K E X te (s0::s1::s2::s3::s4::some (.dic (encD f kvs))::r) λa=>Ev K E X ti (s0::s1::s2::s3::s4::some (.dic (encD f kvs))::r) λb=>∃ z c,a.sto=some (.d z)/\b.data=f c/\NR b/\nx (s0::s1::s2::s3::s4::some (.dic (encD f (putA kvs c z)))::r)):Sv K E X (tAsg te (gSub (tVar 5) ti rSetA)) (s0::s1::s2::s3::s4::some (.dic (encD f kvs))::r) ⟨nx,rt,bk,ct⟩:=Zje (n:=5) F rfl hz h
theorem ZpL{s0 s1 s2 s3 s4 s5 s6 s7:Option AV}{φ:V->Hp->Prop}(q:Q (.av (.obj φ))):Ev K E X (tVar 8) (s0::s1::s2::s3::s4::s5::s6::s7::some (.obj φ)::r) Q:=ZcR rfl q
theorem ZpM{s0 s1 s2 s3 s4 s5 s6 s7 s8:Option AV}{φ:V->Hp->Prop}(q:Q (.av (.obj φ))):Ev K E X (tVar 9) (s0::s1::s2::s3::s4::s5::s6::s7::s8::some (.obj φ)::r) Q:=ZcR rfl q
theorem Zob{s0 s1 s2 s3 s4 s5 s6 s7 s8 s9:Option AV}{φ:V->Hp->Prop}(q:Q (.av (.obj φ))):Ev K E X (tVar 10) (s0::s1::s2::s3::s4::s5::s6::s7::s8::s9::some (.obj φ)::r) Q:=ZcR rfl q
end
end VL
end
section
namespace L2
section
variable {α β:Type}[DecidableEq α]
theorem ZbO{p:α×β}{r:List (α×β)}{k:α}(e:p.1=k):getA (p::r) k=some p.2:=by simp[getA,List.find?_cons,e]
theorem ZbP{p:α×β}{r:List (α×β)}{k:α}(e:¬ p.1=k):getA (p::r) k=getA r k:=by simp[getA,List.find?_cons,e]
theorem Zhw{k j:α}{y:β}:∀ kvs:List (α×β),getA (kvs.map λkv=>if kv.1=k then (kv.1,y) else kv) j=(getA kvs j).map λx=>if j=k then y else x
 | []=>rfl
 | p::r=>by
  have ih:=Zhw (k:=k) (j:=j) (y:=y) r
  rw[List.map_cons]
  by_cases h:p.1=k
  ·rw[if_pos h]
   by_cases e:p.1=j
   ·rw[ZbO (p:=(p.1,y)) e,ZbO e,Option.map_some,if_pos (e.symm.trans h)]
   ·rw[ZbP (p:=(p.1,y)) e,ZbP e,ih]
  ·rw[if_neg h]
   by_cases e:p.1=j
   ·rw[ZbO (p:=p) e,ZbO e,Option.map_some,if_neg (λz=>h (e.trans z))]
   ·rw[ZbP (p:=p) e,ZbP e,ih]
theorem Zf8{k j:α}{y:β}:∀ kvs:List (α×β),getA kvs k=none->getA (kvs++[(k,y)]) j=if j=k then some y else getA kvs j
 | [],_=>by
  by_cases e:k=j
  ·rw[if_pos e.symm];exact ZbO (p:=(k,y)) e
  ·rw[if_neg (λz=>e z.symm)];exact ZbP (p:=(k,y)) e
 | p::r,hn=>by
  rw[List.cons_append]
  have hk:¬ p.1=k:=λz=>by rw[ZbO z] at hn;cases hn
  rw[ZbP hk] at hn
  have ih:=Zf8 (k:=k) (j:=j) (y:=y) r hn
  by_cases e:p.1=j
  ·rw[ZbO e,ZbO e,if_neg (λz=>hk (e.trans z))]
  ·rw[ZbP e,ZbP e,ih]
theorem ZkO(kvs:List (α×β))(k j:α)(y:β):getA (putA kvs k y) j=if j=k then some y else getA kvs j:=by
 unfold putA
 by_cases a:(getA kvs k).isSome=true
 ·rw[if_pos a,Zhw]
  by_cases e:j=k
  ·obtain⟨x,hx⟩:=Option.isSome_iff_exists.mp a
   rw[if_pos e,e,hx,Option.map_some,if_pos rfl]
  ·rw[if_neg e]
   cases getA kvs j with
   | none=>rfl
   | some x=>rw[Option.map_some,if_neg e]
 ·rw[if_neg a]
  refine Zf8 kvs ?_
  cases q:getA kvs k with
  | none=>rfl
  | some x=>rw[q] at a;exact (a rfl).elim
theorem ZkP(kvs:List (α×β))(k:α)(v:β):(putA kvs k v).length<=kvs.length+1:=by
 unfold putA
 split
 ·rw[List.length_map];omega
 ·rw[List.length_append];simp
end
end L2
namespace VL
open PySem PySem.Spec L2
variable [Tabs]
section
variable {K:W.Frag}{ρ:Sl}{P:Sl->Prop}{g1 g2:TG}{x y:PyData}
theorem Zfg(h:Gv K g1 x ρ λρ'=>Gv K g2 y ρ' P):Gv K (gTup K 2 (gCons g1 (gCons g2 gNil))) (.tuple [x,y]) ρ P:=λH0 σ ts as H v Qg s k=>by
 obtain⟨xs,⟨l,e,h1⟩,h2,s'⟩:=s.items (es:=[x,y]) Kp.d (λxs=>∃ l,v=.ref l/\SqT K H l xs) (λG rp sm=>by
  obtain⟨l,xs,e,h3,h4⟩:=Rep.tuple_inv (ds:=[x,y]) rp
  exact⟨xs,⟨l,e,sm.tupS h3⟩,h4⟩) NR.av
 obtain⟨a,b,rfl⟩:=len2 h2
 refine⟨l,[a,b],e,h1,rfl,a,[b],rfl,h H0 σ (b::ts) (.av (.d y)::as) H a _ s' λρ' hg σ' H' s2=>?_⟩
 exact⟨b,[],rfl,hg H0 σ' ts as H' b _ s2 λρ2 p σ2 H2 s3=>⟨rfl,k ρ2 p σ2 H2 s3⟩⟩
end
end VL
end
section
namespace VL
open PySem PySem.Spec L2
variable [Tabs]
section
variable {K:W.Frag}{E:FK}{X:Exc->Sl->Prop}{ρ:Sl}{Q:TV->Prop}{te:TE}
theorem Zhx{cap:List (Option Nat)}{wi:TI}{g:TG}{tt:TT}(h:Iv K E X wi ρ λn f _=>n<=1000000/\∃ I:Nat->List AV->Prop,I 0 []/\(∀ i ys,i<n->I i ys->Gv K g (f i) (capV cap ρ) λρ'=>Wk ρ' (capV cap ρ)/\Tv K E NE tt ρ' λb=>if b=true then Ev K E NE te ρ' λa=>∃ c,a.sto=some c/\I (i+1) (ys++[c]) else I (i+1) ys) /\
  ∀ ys,I n ys->∃ a,Got (.own ys) a/\Q a):Ev K E X (tComp cap wi g tt te) ρ Q:=λH0 σ ts as H QV s x k =>
 h H0 σ ts as H _ s x λn f hd ⟨hn,I,i0,turn,fin⟩ u J H1 nr s1 ok D hD=>by
  have xo:XOk K E NE H1:=XOk.ne (x.t.same s1.same)
  have sD:Same H1 (upd H1 D (.lst [])):=Zba hD
  have st:Stb [TV.av (.d hd.data)]:=Stb.cons Stb.nil
  have start:SR K H1 (capS cap σ) (capV cap ρ) [.ref D,u] [.av (.own []),.av (.d hd.data)] (upd H1 D (.lst [])):=by
   have m:Same H1 (hid (upd H1 D (.lst [])) (λ_=>0) λb=>if b=D then 1 else 0):=λb o e=>by
    have hb:b≠D:=Zan e hD
    unfold hid
    simp[hb]
    rw[Zah hb]
    exact e
   refine⟨⟨λ_=>0,λb=>if b=D then 1 else 0,RSl.cap s1 m cap,.cons (.av (.own Zak (.nil (p:=λ_=>0) λ_=>rfl) (q:=λb=>if b=D then 1 else 0) λb=>by simp)) (.cons (.av (.d (p:=λ_=>0) ((s1.top nr).same m) λ_=>rfl)) (.nil (p:=λ_=>0) λ_=>rfl) (r:=λ_=>0) λb=>by simp) (λb=>by simp),λb=>by simp;split<;>omega,λb z=>?_⟩,sD⟩
   by_cases hb:b=D
   ·rw[hb];exact hD
   ·simp[hb] at z
  refine⟨λi m σ' H'=>m=n-i/\i<=n/\∃ ys,I i ys/\ys.length<=i/\SR K H1 σ' (capV cap ρ) [.ref D,u] [.av (.own ys),.av (.d hd.data)] H',⟨n,by simp,Nat.zero_le _,[],i0,Nat.le_refl _,start⟩,?_⟩
  rintro i m σ2 H2 ⟨rfl,hi,ys,iy,hly,s2⟩
  by_cases hlt:i<n
  ·obtain⟨g1,g2⟩:=s2.swap.turn ok hlt
   refine .inr ⟨g1,λσ' H'=>∃ ys,I (i+1) ys/\ys.length<=i+1/\SR K H1 σ' (capV cap ρ) [.ref D,u] [.av (.own ys),.av (.d hd.data)] H',λσ' H' p=>⟨n-(i+1),by omega,rfl,hlt,p⟩,λw H3 hw=>?_⟩
   have s3:=g2 w H3 hw
   refine turn i ys hlt iy H1 σ2 _ _ H3 w _ s3 λρ4 ⟨wk,tv⟩ σ4 H4 s4=>?_
   refine tv H1 σ4 _ _ H4 _ s4 xo λb qb H5 s5=>?_
   cases b with
   | true =>
    rw[if_pos rfl] at qb ⊢
    refine qb H1 σ4 _ _ H5 _ s5 xo λa ⟨c,e2,e1⟩ z H6 s6=>?_
    have s7:=(s6.sto e2)
    have s8:SR K H1 σ4 ρ4 [z,.ref D,u] [.av c,.av (.own ys),.av (.d hd.data)] H6:=by
     obtain⟨⟨p,q,k1,k2,k3,k4⟩,e⟩:=s7
     refine⟨⟨p,q,k1,?_,k3,k4⟩,e⟩
     cases k2 with
     | cons r rs eq=>exact .cons r rs.swap eq
    obtain⟨vs,h1,h2,h3⟩:=s8.snocT st
    refine⟨vs,h1,small6 ?_,ys++[c],e1,by rw[List.length_append];simp;omega,wk _ _ _ _ _ _ h3⟩
    rw[h2]
    omega
   | false =>
    rw[if_neg Bool.false_ne_true] at qb ⊢
    exact⟨ys,qb,by omega,wk _ _ _ _ _ _ s5.swap⟩
  ·have e:i=n:=by omega
   subst e
   obtain⟨a,hg,q⟩:=fin ys iy
   exact .inl ⟨s2.swap.halt NR.av rfl ok (Nat.le_refl _),k _ q _ _ (s1.pop.gotG s2.rs hg)⟩
theorem Zmr{α:Type}{cap:List (Option Nat)}{g:TG}{tt:TT}{ti:TE}(h:Ev K E X ti ρ λa=>∃ (xs:List α) (e:α->PyData) (I:Nat->List AV->Prop),(a.data=.list (xs.map e)\/a.data=.tuple (xs.map e))/\NR a/\xs.length<=1000000/\I 0 [] /\
  (∀ i ys (hi:i<xs.length),I i ys->Gv K g (e xs[i]) (capV cap ρ) λρ'=>Wk ρ' (capV cap ρ)/\Tv K E NE tt ρ' λb=>if b=true then Ev K E NE te ρ' λa=>∃ c,a.sto=some c/\I (i+1) (ys++[c]) else I (i+1) ys) /\
  ∀ ys,I xs.length ys->∃ a,Got (.own ys) a/\Q a):Ev K E X (tComp cap (iSeq K ti) g tt te) ρ Q :=
 Zhx (Zi7 (ZeP h (λa hh=>by
  obtain⟨xs,e,I,ha,na,hl,i0,turn,fin⟩:=hh
  exact⟨xs.map e,ha,na,by rw[List.length_map];exact hl,I,i0,λi ys hi iy=>by
  rw[List.length_map] at hi
  show Gv K g ((xs.map e).getD i .none) _ _
  rw[Zdc hi]
  exact turn i ys hi iy,λys iy=>fin ys (by rw[List.length_map] at iy;exact iy)⟩)))
theorem Zjg{ρ:Sl}{B C:Prop}(h:B):Tv K E NE tAll ρ λb=>if b=true then B else C:=Zhp (by rw[if_pos rfl];exact h)
end
end VL
end
section
namespace VL
open PySem PySem.Spec L2
variable [Tabs]
section
variable {K:W.Frag}{E:FK}{X:Exc->Sl->Prop}{ρ:Sl}
theorem Zms{l:Addr}{ds:List PyData}:ItOk K (Ite K l) (.ref l) (.list ds) ds.length λi=>.tuple [.int i,ds.getD i .none]:=by
 intro G H sm rp
 obtain⟨l',ys,e',h3,h4⟩:=rp.list_inv
 cases e'
 have h5:=sm.seq h3
 refine⟨λi hi=>?_,λi hi=>⟨ys,h5,by rw[h4.length];exact hi⟩⟩
 obtain⟨w,h6,h7⟩:=h4.get (i:=i) (d:=ds.getD i .none) (by rw[List.getD_eq_getElem?_getD,List.getElem?_eq_getElem hi];rfl)
 refine⟨⟨ys,w,h5,h6⟩,λx H' ⟨p,x0,hp,e1,e2,e3⟩=>?_⟩
 subst e1 e2
 have:=e3 ys h5
 rw[h6] at this
 cases this
 exact⟨Zba hp,λG' m k=>.tup (k p _ Zak hp) (.cons (.int i) (.cons (h7.same m) .nil))⟩
theorem Zmt{A:TA}{P:Nat->(Nat->PyData)->TV->Prop}(h:Ea K E X A ρ λbs=>∃ a ds,bs=[a]/\a.data=.list ds/\NR a/\P ds.length (λi=>.tuple [.int i,ds.getD i .none]) a.frz):Iv K E X (iEnum K A) ρ P:=λH0 σ ts as H R s x k =>
 h H0 σ ts as H _ s x λbs ⟨a,ds,eb,e,na,q⟩ vs H' s' hl=>by
  subst eb
  obtain⟨v,rfl,s'⟩:=ZbV s' hl
  have rp:=s'.top na
  rw[e] at rp
  obtain⟨l,xs,rfl,h1,h2⟩:=rp.list_inv
  refine⟨l,rfl,⟨xs,h1⟩,k _ _ _ q (.ref l) _ H' (TV.frz_nr na) s'.frzV ?_⟩
  rw[TV.frz_data,e]
  exact Zms
theorem Zoc{α:Type}{nx bk ct:Sl->Prop}{rt:TV->Prop}{A:TA}{g:TG}{tb:TS}(h:Ea K E X A ρ λbs=>∃ (a:TV) (xs:List α) (e:α->PyData),bs=[a]/\a.data=.list (xs.map e)/\(∃ c,a=.av c)/\∃ Iw:Nat->Sl->Prop,Iw 0 ρ/\(∀ i ρ' (hi:i<xs.length),Iw i ρ'->Gv K g (.tuple [.int i,e xs[i]]) ρ' λρ''=>Sv K E X tb ρ'' ⟨Iw (i+1),rt,nx,Iw (i+1)⟩)/\∀ ρ',Iw xs.length ρ'->nx ρ'):Sv K E X (tFor (iEnum K A) g tb) ρ ⟨nx,rt,bk,ct⟩ :=
 Zhr (Zmt λH0 σ ts as H QV s x k=>h H0 σ ts as H QV s x λbs ⟨a,xs,e,eb,ha,⟨c,hc⟩,Iw,i0,turn,fin⟩=>k bs ⟨a,xs.map e,eb,ha,by subst hc;exact NR.av,⟨c.data,by rw[hc];rfl⟩,Iw,i0,λi ρ' hi w=>by
  rw[List.length_map] at hi
  show Gv K g (.tuple [.int i,(xs.map e).getD i .none]) ρ' _
  rw[Zdc hi]
  exact turn i ρ' hi w,λρ' w=>fin ρ' (by rw[List.length_map] at w;exact w)⟩)
end
end VL
end
section
namespace L2
open PySem PySem.Spec PyProof.Rows
section
variable {prog:Program}{w:World}{A:Around}{E:Value->Shared->Prop}{s:Shared}
theorem Zdy{it l:Addr}{i:Nat}{items:Array Value}{x:Value}{Q:Value->Shared->Prop}(hit:s.heap.IsTupleIter it l i)(hl:s.heap.IsTuple l items)(hx:items[i]?=some x)
  (hQ:∀ h',h'.IsTupleIter it l (i+1)->Heap.SameBut it s.heap h'->Q x { s with heap:=h' }):wpAny (model prog w) A (Builtin.SmallTypes.nextOf (.ref it)) Q E s:=by
 obtain⟨o,ho,hc,hd⟩:=id hit
 obtain⟨ol,hol,_,nl,hdl⟩:=hl
 unfold Builtin.SmallTypes.nextOf
 refine wpAny_bind (wpAny_callSpecial?_slot (name:=Str.ofString "__next__") hit.typeIs F.slot_tuple_iterator_next
  (wpAny_call_entry F.slot_tuple_iterator_next hit.typeIs F.entry_tuple_iterator_next ?_ (F.args_tuple_iterator_next_1 _)))
 show wpAny _ _ (field (.ref it) 0 >>= _) _ _ s
 refine wpAny_bind (wpAny_field ho hd (x:=.ref l) rfl ?_)
 show wpAny _ _ (if (Value.ref l == Value.none)=true then _ else _) _ _ s
 rw[if_neg (show ¬ ((Value.ref l == Value.none)=true) from Bool.false_ne_true)]
 show wpAny _ _ (field (.ref it) 1 >>= _) _ _ s
 refine wpAny_bind (wpAny_field ho hd (x:=.int i 0) rfl ?_)
 show wpAny _ _ (seqItems? (.ref l) >>= _) _ _ s
 refine wpAny_bind (wpAny_seqItems hol hdl ?_)
 simp only[Int.toNat_natCast,hx]
 refine wpAny_bind (wpAny_setField ho hd (by simp) (wpAny_pure ⟨x,rfl,wpAny_pure (hQ _ ?_ (Heap.SameBut.update ..))⟩))
 exact⟨_,Heap.get?_update_self _ ho (Obj.isFreed_of_fields (Obj.data_mapFields hd _)),(Obj.cls_mapFields ..).trans hc,by
  rw[Obj.data_mapFields hd];simp[rawInt]⟩
theorem ZdM{it l:Addr}{i:Nat}{items:Array Value}{Q:Value->Shared->Prop}(hh:A.handled=none)(hit:s.heap.IsTupleIter it l i)(hl:s.heap.IsTuple l items)(hx:items[i]?=none)
  (hE:∀ h' e,Heap.ExtBut it s.heap h'->(∃ o,h'.get? e=some o/\o.cls=.type "StopIteration")->E (.ref e) { s with heap:=h' }):wpAny (model prog w) A (Builtin.SmallTypes.nextOf (.ref it)) Q E s:=by
 obtain⟨o,ho,hc,hd⟩:=id hit
 obtain⟨ol,hol,_,nl,hdl⟩:=hl
 unfold Builtin.SmallTypes.nextOf
 refine wpAny_bind (wpAny_callSpecial?_slot (name:=Str.ofString "__next__") hit.typeIs F.slot_tuple_iterator_next
  (wpAny_call_entry F.slot_tuple_iterator_next hit.typeIs F.entry_tuple_iterator_next ?_ (F.args_tuple_iterator_next_1 _)))
 show wpAny _ _ (field (.ref it) 0 >>= _) _ _ s
 refine wpAny_bind (wpAny_field ho hd (x:=.ref l) rfl ?_)
 show wpAny _ _ (if (Value.ref l == Value.none)=true then _ else _) _ _ s
 rw[if_neg (show ¬ ((Value.ref l == Value.none)=true) from Bool.false_ne_true)]
 show wpAny _ _ (field (.ref it) 1 >>= _) _ _ s
 refine wpAny_bind (wpAny_field ho hd (x:=.int i 0) rfl ?_)
 show wpAny _ _ (seqItems? (.ref l) >>= _) _ _ s
 refine wpAny_bind (wpAny_seqItems hol hdl ?_)
 simp only[Int.toNat_natCast,hx]
 refine wpAny_bind (wpAny_rule (wpAny_bind (wpAny_setField ho hd (by simp) ?_)))
 show wpAny _ _ (newExc (.type "StopIteration") [] >>= _) _ _ _
 refine wpAny_bind ?_
 simp only[newExc,newTuple]
 refine wpAny_bind (wpAny_newObj_type ?_ (by size_fits))
 refine wpAny_bind (m:=firstArgMember _ _) (wpAny_of_eq (a:=Value.none) (by first|rfl|(simp only[firstArgMember];rfl)) ?_)
 refine wpAny_newObj_type ?_ (by size_fits)
 simp only[raiseNew]
 refine wpAny_bind (wpAny_handled ?_)
 first|rw[show A.in1.handled=none from hh]|rw[hh]
 refine wpAny_bind (wpAny_pure (wpAny_throw ?_))
 exact hE _ _ (((Heap.SameBut.update ..).extBut.push _).push _) ⟨_,Heap.get?_push_size _ rfl,rfl⟩
end
theorem Zd7{prog:Program}{w:World}{A:Around}(hh:A.handled=none)(it l:Addr)(hne:l≠it)(items:Array Value) :
  Draws prog w A it [it,l] items.size (λi v=>items[i]?=some v) (λi h=>h.IsTupleIter it l i/\h.IsTuple l items) where
 live:=λ_ _ st=>let ⟨o,ho,_⟩:=st.1;⟨o,ho⟩
 frame:=λ_ _ _ st hk=>⟨st.1.at λo e=>hk it (by simp) o e,let ⟨o,e,r⟩:=st.2;⟨o,hk l (by simp) o e,r⟩⟩
 item:=λi s Q E hi st hQ=>by
  refine Zdy st.1 st.2 (x:=items[i]) (by simp[hi]) λh' hit' hs'=>?_
  exact hQ _ h' s.toks (by simp[hi]) ⟨hit',st.2.extBut hs'.extBut hne⟩ hs'
 done:=λs Q E st hE=>ZdM hh st.1 st.2 (by simp) hE
theorem ZgM(l:Addr)(items:Array Value)(n:Nat)(dct:Option Addr)(sl:Array (Option Value)) :
  Meets (Builtin.«enumerate.__new__» ⟨[.type "enumerate",.ref l],[]⟩) (λ_ R s=>s.heap.get? l=some { cls:=.type "tuple",dict:=dct,data:=.seq items n,slots:=sl } /\
   R (.ok (.ret (.ref (s.heap.push { cls:=.type "tuple_iterator",data:=.fields #[.ref l,.int 0 0] }).objs.size)))
    { s with heap:=(s.heap.push { cls:=.type "tuple_iterator",data:=.fields #[.ref l,.int 0 0] }).push { cls:=.type "enumerate",data:=.fields #[.none,.bool false,.ref s.heap.objs.size,rawInt 0,.none,.none] } }) :=
 .of_wp λprog w A R s h=>by
  obtain⟨hp,g,d,tk,os⟩:=s;obtain⟨hl,h⟩:=h
  have hsub:=sub_enumerate
  have hL:Heap.IsTuple (Shared.heap ⟨hp,g,d,tk,os⟩) l items:=⟨_,hl,rfl,n,rfl⟩
  wp_walk using wpAny_loadPart' hl
  refine wpAny_stack_any λst=>wpAny_pure ?_
  split
  ·rename_i c _ _ _ _ _
   cases (c == Value.type "enumerate")
   ·wp_walk using wpAny_loadPart' hl,wpAny_pyIter_tuple hL
    exact⟨_,rfl,h⟩
   ·wp_walk using wpAny_loadPart' hl,wpAny_pyIter_tuple hL
    exact⟨_,rfl,h⟩
  ·wp_walk using wpAny_loadPart' hl,wpAny_pyIter_tuple hL
   exact⟨_,rfl,h⟩
end L2
end
section
namespace L2
open PySem PySem.Spec PyProof.Rows
theorem ZcF{prog:Program}{w:World}{A:Around}{E:Value->Shared->Prop}{s:Shared}{l:Addr}{items:Array Value}{Q:Value->Shared->Prop}(hL:s.heap.IsTuple l items)
  (h:∀ h',IsEnum h' (s.heap.objs.size+1) s.heap.objs.size 0 .none->h'.IsTupleIter s.heap.objs.size l 0->h'.objs.size=s.heap.objs.size+2 ->
   (∀ b o,s.heap.get? b=some o->h'.get? b=some o)->Q (.ref (s.heap.objs.size+1)) { s with heap:=h' }) :
  wpAny (model prog w) A (call (.type "enumerate") [.ref l]) Q E s:=by
 obtain⟨⟨c,dct,dt,sl⟩,hl,hc,n,hd⟩:=hL
 replace hc:c=.type "tuple" := hc
 replace hd:dt=.seq items n:=hd
 subst hc hd
 refine callType_new F.called_enumerate (by decide) (F.typeCall_enumerate_1 _) (F.newCall_enumerate_1 _) (λobj=>F.args_object_init_2 obj _) F.entry_enumerate_new
  (ZgM l items n dct sl) ⟨hl,?_⟩
 have hz:(s.heap.push { cls:=.type "tuple_iterator",data:=.fields #[.ref l,.int 0 0] }).objs.size=s.heap.objs.size+1:=Heap.size_push ..
 show _/\_
 rw[hz]
 have he:IsEnum ((s.heap.push { cls:=.type "tuple_iterator",data:=.fields #[.ref l,.int 0 0] }).push
   { cls:=.type "enumerate",data:=.fields #[.none,.bool false,.ref s.heap.objs.size,rawInt 0,.none,.none] }) (s.heap.objs.size+1) s.heap.objs.size 0 .none:=by
  have:=Heap.get?_push_size (s.heap.push { cls:=.type "tuple_iterator",data:=.fields #[.ref l,.int 0 0] })
   (o:={ cls:=.type "enumerate",data:=.fields #[.none,.bool false,.ref s.heap.objs.size,rawInt 0,.none,.none] }) rfl
  rw[hz] at this;exact this
 refine⟨⟨_,he,rfl⟩,h _ he ⟨_,Heap.get?_push_of_some _ (Heap.get?_push_size _ rfl),rfl,rfl⟩ (by rw[Heap.size_push,hz]) λb o x=>Heap.get?_push_of_some _ (Heap.get?_push_of_some _ x)⟩
def IteT(K:W.Frag)(a:Addr)(n:Nat):It :=
  ⟨λi H=>∃ xs x,SqT K H a xs/\xs.length=n/\xs[i]?=some x,
   λi H v H'=>∃ p x,H p=none/\v=.ref p/\H'=upd H p (.tup [.int i,x])/\∀ xs,SqT K H a xs->xs[i]?=some x,
   λi H=>∃ xs,SqT K H a xs/\xs.length=n/\n<=i⟩
theorem Zil{P:Program}{w:World}{K:W.Frag}{es:List Expr}{x1}{tp:Pos}(a e it:Addr)(n:Nat)(hne:e≠it)(hai:a≠it)(hae:a≠e):Turn P w K (.Tuple es x1 tp) (IteT K a n) [e,it] e (λi h=>(i<=n/\∃ old,IsEnum h e it i old)/\h.IsTupleIter it a i) where
 mem:=by simp
 obj:=λi h st b hb=>by
  obtain⟨⟨_,old,he⟩,o,hi,hc,hd⟩:=st
  have hb:b=e\/b=it:=by simpa using hb
  rcases hb with rfl|rfl
  ·exact⟨_,he,λv z=>by cases (show Data.fields _=Data.cell v from z)⟩
  ·exact⟨o,hi,λv z=>by rw[hd] at z;cases z⟩
 keep:=λi h h' st k=>by
  obtain⟨⟨hl,old,he⟩,hi⟩:=st
  exact⟨⟨hl,old,k e (by simp) _ he⟩,hi.at λo q=>k it (by simp) o q⟩
 item:=by
  intro X hP hw hK hc i pins s σ H E I hf st hg
  subst hP hw hK
  obtain⟨xs,x,hq,hn,hx⟩:=hg
  obtain⟨⟨hl,old,he⟩,hi⟩:=st
  obtain⟨is,rv,p,hz⟩:=I.tuple hq
  have hsz0:is.toArray.size=n:=by rw[List.size_toArray,<- rv.length];exact hn
  have hi':i<is.toArray.size:=by rw[hsz0,<- hn];exact (List.getElem?_eq_some_iff.mp hx).1
  refine wpAny_pyNext_enum_itemD (Zd7 (A:=X.A.in1) (I.ok.hd hc) it a hai is.toArray) he ⟨hi,p⟩ hi' hne (by simp[hne,hae.symm]) λu h' tk hP ho hi2 ht hsz k=>?_
  refine⟨_,rfl,wpAny_letOwnedTupleGo_enum ho λh2 he2 hs2=>?_⟩
  have fe:=hf e (by simp)
  have fi:=hf it (by simp)
  obtain⟨u',hu,ru⟩:=rv.get hx
  have eu:u=u':=by
   have:=hP
   simp only[List.getElem?_toArray] at this
   rw[hu] at this
   exact (Option.some.inj this).symm
  subst eu
  have I1:Inv X pins σ (upd H s.heap.objs.size (.tup [.int i,x])) { s with heap:=h',toks:=tk+1 }:=I.enumed fe fi k ht (.cons ⟨_,rfl⟩ (.cons ru .nil)) (by show 2<=sizeLine;decide)
  have he1:e≠s.heap.objs.size:=Nat.ne_of_lt (Heap.lt_size he)
  have hi1:it≠s.heap.objs.size:=by obtain⟨_,q,_⟩:=hi;exact Nat.ne_of_lt (Heap.lt_size q)
  have I2:=I1.turned (h':=h2) (t':=tk+1) (it:=e) (λb o hb q=>(hs2.2 b hb).trans q) (by rw[Zah he1];exact fe.1) fe.2.1 fe.2.2.2.1 fe.2.2.2.2.1 fe.2.2.2.2.2
  refine⟨.ref s.heap.objs.size,_,I2,rfl,⟨s.heap.objs.size,x,I.hok.fresh (Nat.le_refl _),rfl,rfl,λys hy=>by rw[I.tuple_inj hy hq];exact hx⟩,⟨⟨by rw[<- hsz0];exact hi',u,by simpa using he2⟩,hi2.1.at λo q=>(hs2.2 it hne.symm).trans q⟩,λb hb=>?_⟩
  have hb:b=e\/b=it:=by simpa using hb
  rcases hb with rfl|rfl
  ·rw[Zah he1];exact fe.1
  ·rw[Zah hi1];exact fi.1
 done:=by
  intro X hP hw hK hc i pins s σ H E I hf st hg
  subst hP hw hK
  obtain⟨xs,hq,hn,hx⟩:=hg
  obtain⟨⟨hl,old,he⟩,hi⟩:=st
  obtain⟨is,rv,p,hz⟩:=I.tuple hq
  have hsz0:is.toArray.size=n:=by rw[List.size_toArray,<- rv.length];exact hn
  obtain⟨f0,f1,f2,f3,f4,f5⟩:=hf it (by simp)
  have e1:i=is.toArray.size:=by rw[hsz0];exact Nat.le_antisymm hl hx
  rw[e1] at hi
  exact wpAny_pyNext_enum_endD (Zd7 (A:=X.A.in1) (I.ok.hd hc) it a hai is.toArray) he ⟨hi,p⟩ λh' eb=>⟨rfl,I.turned (t':=s.toks) (λb o hb e=>eb b o hb e) f0 f1 f3 f4 f5⟩
 self:=λ_ _ _ _ _ st h=>by
  obtain⟨⟨_,old,he⟩,_⟩:=st
  exact wpAny_pyIter_enum he h
def iEnumT(K:W.Frag)(ta:TA):TI:=λσ H R=>ta σ H λvs H1=>∃ a xs,vs=[.ref a]/\SqT K H1 a xs/\R (IteT K a xs.length) H1
theorem Zf9{X:Cx}{K:W.Frag}{a:Expr}{ta:TA}{es:List Expr}{x1}{tp p pos:Pos}(hK:X.K=K)(hg:Gl X "enumerate")(hm:X.mg "enumerate" = none)(ha:PA X [a] ta)(hs:starEach [a] X.env=[(false,eval a X.env)]:=by rfl) :
  PI X (.Tuple es x1 tp) (.Call (.Name "enumerate" p) [a] [] pos) (iEnumT K ta):=by
 subst hK
 intro pins s σ H R I h
 refine Call_ (ZfQ I hg hm PyProof.Rows.boot_enumerate (PyProof.Rows.callWith_type1 (thn (ha pos pins s σ H _ I h) λus s1 h1=>?_) hs rfl))
 obtain⟨vs,H1,I1,r1,a,xs,e,hq,q⟩:=h1
 subst e
 cases r1 with
 | cons r rr =>
  cases rr
  cases (show _=Value.ref a from r)
  obtain⟨its,rv,p,hz⟩:=I1.tuple hq
  have ha:a<s1.heap.objs.size:=by obtain⟨o,e,_⟩:=id p;exact Heap.lt_size e
  refine ZcF p λh' he hi hsz k=>?_
  refine wpAny_pyIter_enum he ?_
  have I2:Inv X pins σ H1 { s1 with heap:=h' }:=I1.kept (t':=s1.toks) k
  refine⟨_,[s1.heap.objs.size+1,s1.heap.objs.size],_,IteT X.K a xs.length,H1,rfl,I2,Zil a _ _ xs.length (Nat.ne_of_gt (Nat.lt_succ_self _)) (Nat.ne_of_lt ha) (Nat.ne_of_lt (Nat.lt_succ_of_lt ha)),⟨⟨Nat.zero_le _,_,he⟩,hi⟩,λb hb=>?_,q⟩
  have hb:b=s1.heap.objs.size+1\/b=s1.heap.objs.size:=by simpa using hb
  rcases hb with rfl|rfl
  ·exact I1.fpOk (Nat.le_succ _) (I1.hok.fresh (Nat.le_succ _))
  ·exact I1.fpOk (Nat.le_refl _) (I1.hok.fresh (Nat.le_refl _))
end L2
namespace VL
open PySem PySem.Spec L2
variable [Tabs]
section
variable {K:W.Frag}{E:FK}{X:Exc->Sl->Prop}{ρ:Sl}
theorem ZkQ{l:Addr}{ds:List PyData}:ItOk K (IteT K l ds.length) (.ref l) (.tuple ds) ds.length λi=>.tuple [.int i,ds.getD i .none]:=by
 intro G H sm rp
 obtain⟨l',ys,e',h3,h4⟩:=rp.tuple_inv
 cases e'
 have h5:=sm.tupS h3
 refine⟨λi hi=>?_,λi hi=>⟨ys,h5,h4.length,hi⟩⟩
 obtain⟨w,h6,h7⟩:=h4.get (i:=i) (d:=ds.getD i .none) (by rw[List.getD_eq_getElem?_getD,List.getElem?_eq_getElem hi];rfl)
 refine⟨⟨ys,w,h5,h4.length,h6⟩,λx H' ⟨p,x0,hp,e1,e2,e3⟩=>?_⟩
 subst e1 e2
 have:=e3 ys h5
 rw[h6] at this
 cases this
 exact⟨Zba hp,λG' m k=>.tup (k p _ Zak hp) (.cons (.int i) (.cons (h7.same m) .nil))⟩
theorem Zhy{A:TA}{P:Nat->(Nat->PyData)->TV->Prop}(h:Ea K E X A ρ λbs=>∃ a ds,bs=[a]/\a.data=.tuple ds/\NR a/\P ds.length (λi=>.tuple [.int i,ds.getD i .none]) a.frz):Iv K E X (iEnumT K A) ρ P:=λH0 σ ts as H R s x k =>
 h H0 σ ts as H _ s x λbs ⟨a,ds,eb,e,na,q⟩ vs H' s' hl=>by
  subst eb
  obtain⟨v,rfl,s'⟩:=ZbV s' hl
  have rp:=s'.top na
  rw[e] at rp
  obtain⟨l,xs,rfl,h1,h2⟩:=rp.tuple_inv
  refine⟨l,xs,rfl,h1,k _ _ _ q (.ref l) _ H' (TV.frz_nr na) s'.frzV ?_⟩
  rw[TV.frz_data,e,h2.length]
  exact ZkQ
theorem Zod{α:Type}{nx bk ct:Sl->Prop}{rt:TV->Prop}{A:TA}{g:TG}{tb:TS}(h:Ea K E X A ρ λbs=>∃ (a:TV) (xs:List α) (e:α->PyData),bs=[a]/\a.data=.tuple (xs.map e)/\NR a/\(∃ d,a.frz=.av (.d d))/\∃ Iw:Nat->Sl->Prop,Iw 0 ρ/\(∀ i ρ' (hi:i<xs.length),Iw i ρ'->Gv K g (.tuple [.int i,e xs[i]]) ρ' λρ''=>Sv K E X tb ρ'' ⟨Iw (i+1),rt,nx,Iw (i+1)⟩)/\∀ ρ',Iw xs.length ρ'->nx ρ'):Sv K E X (tFor (iEnumT K A) g tb) ρ ⟨nx,rt,bk,ct⟩ :=
 Zhr (Zhy λH0 σ ts as H QV s x k=>h H0 σ ts as H QV s x (λbs hh=>by
  obtain⟨a,xs,e,eb,ha,na,hc,Iw,i0,turn,fin⟩:=hh
  exact k bs ⟨a,xs.map e,eb,ha,na,hc,Iw,i0,λi ρ' hi w=>by
  rw[List.length_map] at hi
  show Gv K g (.tuple [.int i,(xs.map e).getD i .none]) ρ' _
  rw[Zdc hi]
  exact turn i ρ' hi w,λρ' w=>fin ρ' (by rw[List.length_map] at w;exact w)⟩))
end
end VL
end
section
namespace L2
open PySem PySem.Spec PySem.Calls PyProof.Rows PySem.W
theorem Zga{l:OpenLaw}{n:Nat}{q:Program}{loose:List Str}{XP:(Str->Option Value)->Heap->Prop}{YP:World->Heap->Prop}{d:DefRec}
  (hn:l.most=some n) (hdf:d.params.defaults=[])
  (call:∀ (w:World) (s₀ s₁:Shared) (mg mb:Str->Option Value) (fa:Addr) (o:Obj) (pm cd doc:Value) (a:Addr) (vs:List Value) (ns:List Int),
   Ground q loose [] XP w s₀ mg mb s₁.heap->YP w s₁.heap ->
   s₁.heap.get? fa=some o->o.data=.func (docDef d.name d.params d.body d.scope pm cd doc)->s₁.heap.CodeRec cd d.name->mg d.name=some (.ref fa) ->
   s₁.heap.get? a=some { cls:=.type "list",data:=.seq vs.toArray }->IntsAre vs ns->ns.length<=n->s₁.gens=#[]->(∀ x∈ns,Builtin.Int.intBits x<=2 ^ 20) ->
   codeAny (model l.prog w) callerA (.call (.ref fa) ⟨[.ref a],[]⟩) (λr s'=>r=.ok (.ret (.bool true))/\OldK s₁.heap s'.heap/\s'.os=s₁.os/\AllBare s'.gens) s₁) :
  WalkO q loose XP YP l.row.toRowW d [] (λf vs=>PySem.call f vs):=by
 intro w s₀ s₁ mg mb G Y fa o pm cd doc dV kV ho hd hcd hD hmg hg args vals as hpre hlay hrd hwl hlo
 obtain rfl:dV=.none:=Dflts.none hD hdf
 obtain rfl:kV=.none:=Dflts.noKw hD
 obtain⟨a,vs,ns,rfl,rfl,hobj,hints,hlen⟩:=Att.ZiT hn hpre hwl
 refine enter_call (codeAny_mono (call w s₀ s₁ mg mb fa o pm cd doc a vs ns G Y ho (fd_plain hd) hcd hmg hobj hints hlen hg ?_) λr s' hq=>?_)
 ·intro x hx
  have h1:=(layW_cons hlay).1
  have h2:=layableW_item h1 (.int x) (List.mem_map.mpr ⟨x,hx,rfl⟩)
  exact PyData.bits_of_layable (PyData.layable0_of (λ_=>rfl) (layable_int h2))
 obtain⟨rfl,h2,h3,h4⟩:=hq
 exact⟨.inl ⟨.bool true,.bool true,[],rfl,λ_=>rfl,.bool true,Att.ZiU l _,λ_=>⟨List.Pairwise.nil,λ_ hm=>(nomatch hm)⟩⟩,h2,h3,h4⟩
end L2
end
section
namespace L2
open PySem PySem.Spec PyProof.Rows
open Classical
noncomputable def lend(C:Addr->Prop)(h:Heap)(H:Hp):Hp:=λb=>if C b then (h.get? b).map (λo=>HO.frz o (.own b)) else H b
noncomputable def unl(C:Addr->Prop)(H:Hp):Hp:=λb=>if C b then none else H b
noncomputable def rel(C:Addr->Prop)(H H':Hp):Hp:=λb=>if C b then H b else H' b
structure LendOk(C:Addr->Prop)(h:Heap)(H:Hp):Prop where
 no:∀ b,C b->H b=none
 obj:∀ b,C b->∃ o,h.get? b=some o
section
variable {C:Addr->Prop}{P:Program}{w:World}{H H':Hp}{h h':Heap}{fs ex:List Addr}{b:Addr}
theorem Zcm(hb:¬ C b):lend C h H b=H b:=if_neg hb
theorem Zfh(L:LendOk C h H)(hb:C b):∃ o,h.get? b=some o/\lend C h H b=some (.frz o (.own b)):=by
 obtain⟨o,e⟩:=L.obj b hb
 exact⟨o,e,by unfold lend;rw[if_pos hb,e];rfl⟩
theorem ZcS{o:HO}(L:LendOk C h H)(e:H b=some o):lend C h H b=some o:=by
 have hb:¬ C b:=λz=>by rw[L.no b z] at e;cases e
 rw[Zcm hb];exact e
theorem Zjh(L:LendOk C h H):Same H (lend C h H):=λb o e=>ZcS L e
theorem ZkR(L:LendOk C h H)(ok:HOk P w H h):HOk P w (lend C h H) h:=λa o e=>by
 by_cases ha:C a
 ·obtain⟨ob,e1,e2⟩:=Zfh L ha
  rw[e2] at e
  cases e
  exact⟨e1,ob,e1⟩
 ·rw[Zcm ha] at e
  exact (ok a o e).stay (λ_ _ _ q=>q) (λ_ q=>ZcS L q) (λ_ _ q=>ZcS L q) λ_ _ q=>ZcS L q
theorem ZaX(hb:¬ C b):unl C H b=H b:=if_neg hb
theorem Zd8(hb:C b):unl C H b=none:=if_pos hb
theorem Zfi(L:LendOk C h H)(un:Un fs ex (lend C h H) H' h h')(hb:C b):∃ o,h.get? b=some o/\H' b=some (.frz o (.own b)):=by
 obtain⟨o,e1,e2⟩:=Zfh L hb
 exact⟨o,e1,un.frzs b o _ e2⟩
theorem Zoe(L:LendOk C h H)(un:Un fs ex (lend C h H) H' h h')(hok:HOk P w H' h')(hfs:∀ b,C b->b∉fs):Un fs ex H (unl C H') h h' where
 keep:=λb o e n hb hx=>by
  by_cases hc:C b
  ·obtain⟨o',e1,e2⟩:=Zfi L un hc
   rw[e] at e1;cases e1
   exact (hok b _ e2).1
  ·exact un.keep b o e (by rw[Zcm hc];exact n) hb hx
 slot:=λb o e n hb hx=>un.slot b o e (by rw[Zcm λhc=>hfs b hc hb];exact n) hb hx
 free:=λb o e n hx=>by
  by_cases hc:C b
  ·exact Zd8 hc
  ·rw[ZaX hc]
   exact un.free b o e (by rw[Zcm hc];exact n) hx
 there:=un.there
 tups:=λb xs e=>by
  have hc:¬ C b:=λz=>by rw[L.no b z] at e;cases e
  rw[ZaX hc]
  exact un.tups b xs (ZcS L e)
 frzs:=λb o u e=>by
  have hc:¬ C b:=λz=>by rw[L.no b z] at e;cases e
  rw[ZaX hc]
  exact un.frzs b o u (ZcS L e)
 tbls:=λb ps e=>by
  have hc:¬ C b:=λz=>by rw[L.no b z] at e;cases e
  rw[ZaX hc]
  exact un.tbls b ps (ZcS L e)
theorem Zmu(L:LendOk C h H)(un:Un fs ex (lend C h H) H' h h')(hok:HOk P w H' h'):HOk P w (unl C H') h':=λa o e=>by
 have ha:¬ C a:=λz=>by rw[Zd8 z] at e;cases e
 rw[ZaX ha] at e
 have nc:∀ {b:Addr} {u:HO},H' b=some u->(∀ o,u≠.frz o (.own b))->unl C H' b=some u:=λ{b u} q n=>by
  have hc:¬ C b:=λz=>by
   obtain⟨o',_,e2⟩:=Zfi L un z
   rw[q] at e2
   cases e2
   exact n _ rfl
  rw[ZaX hc];exact q
 refine (hok a o e).stay (λ_ _ _ q=>q) (λb q=>nc q λo z=>by cases z) (λb xs q=>nc q λo z=>by cases z) λb ob q=>?_
 have hc:¬ C b:=λz=>by
  obtain⟨o',_,e2⟩:=Zfi L un z
  rw[q] at e2
  cases e2
  exact ha z
 rw[ZaX hc];exact q
theorem Zhz(hb:C b):rel C H H' b=H b:=if_pos hb
theorem ZdE(hb:¬ C b):rel C H H' b=H' b:=if_neg hb
theorem Zdg(hC:∀ b,C b->∃ o,H b=some (.frz o (.own b))){o:HO}(e:H b=some o)(n:∀ ob,o≠.frz ob (.own b)):unl C H b=some o:=by
 have hc:¬ C b:=λz=>by obtain⟨o',e2⟩:=hC b z;rw[e] at e2;cases e2;exact n _ rfl
 rw[ZaX hc];exact e
theorem ZkS(hC:∀ b,C b->∃ o,H b=some (.frz o (.own b)))(hok:HOk P w H h):HOk P w (unl C H) h:=λa o e=>by
 have ha:¬ C a:=λz=>by rw[Zd8 z] at e;cases e
 rw[ZaX ha] at e
 refine (hok a o e).stay (λ_ _ _ q=>q) (λb q=>Zdg hC q λo z=>by cases z) (λb xs q=>Zdg hC q λo z=>by cases z) λb ob q=>?_
 have hc:¬ C b:=λz=>by
  obtain⟨o',e2⟩:=hC b z
  rw[q] at e2
  cases e2
  exact ha z
 rw[ZaX hc];exact q
theorem Zof(hC:∀ b,C b->∃ o,H b=some (.frz o (.own b)))(hok0:HOk P w H h)(un:Un fs ex (unl C H) H' h h')(hfs:∀ b,C b->b∉fs/\b∉ex):Un fs ex H (rel C H H') h h' where
 keep:=λb o e n hb hx=>by
  have hc:¬ C b:=λz=>by obtain⟨o',e2⟩:=hC b z;rw[n] at e2;cases e2
  exact un.keep b o e (by rw[ZaX hc];exact n) hb hx
 slot:=λb o e n hb hx=>un.slot b o e (by rw[ZaX λhc=>(hfs b hc).1 hb];exact n) hb hx
 free:=λb o e n hx=>by
  have hc:¬ C b:=λz=>by obtain⟨o',e2⟩:=hC b z;rw[n] at e2;cases e2
  rw[ZdE hc]
  exact un.free b o e (by rw[ZaX hc];exact n) hx
 there:=un.there
 tups:=λb xs e=>by
  by_cases hc:C b
  ·rw[Zhz hc];exact e
  ·rw[ZdE hc];exact un.tups b xs (by rw[ZaX hc];exact e)
 frzs:=λb o u e=>by
  by_cases hc:C b
  ·rw[Zhz hc];exact e
  ·rw[ZdE hc];exact un.frzs b o u (by rw[ZaX hc];exact e)
 tbls:=λb ps e=>by
  have hc:¬ C b:=λz=>by obtain⟨o',e2⟩:=hC b z;rw[e] at e2;cases e2
  rw[ZdE hc];exact un.tbls b ps (by rw[ZaX hc];exact e)
theorem ZlE(hC:∀ b,C b->∃ o,H b=some (.frz o (.own b)))(hok0:HOk P w H h)(un:Un fs ex (unl C H) H' h h')(hfs:∀ b,C b->b∉fs/\b∉ex)(hb:C b):H' b=none:=by
 obtain⟨o,e⟩:=hC b hb
 exact un.free b o (hok0 b _ e).1 (Zd8 hb) (hfs b hb).2
theorem Zmv(hC:∀ b,C b->∃ o,H b=some (.frz o (.own b)))(hok0:HOk P w H h)(un:Un fs ex (unl C H) H' h h')(hfs:∀ b,C b->b∉fs/\b∉ex)(hok:HOk P w H' h'):HOk P w (rel C H H') h':=λa o e=>by
 by_cases ha:C a
 ·rw[Zhz ha] at e
  obtain⟨ob,e2⟩:=hC a ha
  rw[e2] at e
  cases e
  have:=un.keep a ob (hok0 a _ e2).1 (Zd8 ha) (hfs a ha).1 (hfs a ha).2
  exact⟨this,ob,this⟩
 ·rw[ZdE ha] at e
  have nc:∀ {b:Addr} {u:HO},H' b=some u->rel C H H' b=some u:=λ{b u} q=>by
   have hc:¬ C b:=λz=>by rw[ZlE hC hok0 un hfs z] at q;cases q
   rw[ZdE hc];exact q
  exact (hok a o e).stay (λ_ _ _ q=>q) (λb q=>nc q) (λb xs q=>nc q) λb ob q=>nc q
end
structure CloOk(P:Program)(w:World)(K:W.Frag)(mg:Str->Option Value)(base:Heap)(CX:CXT)(k:Nat)(sp:Sp)(v:V)(G:Hp):Prop where
 at':∃ f fo fd,v=.ref f/\G f=some (.frz fo (.own f))/\fo.data=.func fd
 run:∀ f,v=.ref f->∀ (A:Around) (outer:List Env) (s:Shared) (H:Hp) (us:List Value) (vs:List V) (Q:VK) (E:XK),Room k A->Env0 P w K mg base A outer s H->Same G H->Vals vs us->sp vs H Q E ->
  codeAny (model P w) A (.call (.ref f) ⟨us,[]⟩) (CR CX outer P w H s Q E) s
theorem CloOk.same{P:Program}{w:World}{K:W.Frag}{mg:Str->Option Value}{base:Heap}{CX:CXT}{k:Nat}{sp:Sp}{v:V}{G G':Hp}(c:CloOk P w K mg base CX k sp v G)(m:Same G G'):CloOk P w K mg base CX k sp v G' :=
 ⟨let ⟨f,fo,fd,e,h,d⟩:=c.at';⟨f,fo,fd,e,m _ _ h,d⟩,λf e A outer s H us vs Q E hr e0 mm=>c.run f e A outer s H us vs Q E hr e0 (m.trans mm)⟩
section
variable {X:Cx}{CX:CXT}{k:Nat}{sp:Sp}{E:XK}{x:Str}{p pos:Pos}{e:Expr}{es:List Expr}{t:TA}{i:Nat}
theorem Zmw{pins:List (Addr×Obj)}{σ:St}{H:Hp}{s:Shared}{Q:VK}{us:List Value}{vs:List V}{f:Addr}(c:CloOk X.prog X.w X.K X.mg X.base CX k sp (.ref f) H)(hr:Room k X.A)(hx:Passes CX X E)
  (I:Inv X pins σ H s) (r:Vals vs us) (h:sp vs H Q E):wpAny (model X.prog X.w) X.A (call (.ref f) us) (EP X pins σ Q) X.xe s:=by
 refine wpAny_call (codeAny_mono (c.run f rfl X.A X.stack s H us vs Q E hr I.env0 (.refl H) r h) λr s' hq=>?_)
 cases r with
 | error e=>exact hx pins σ H s e s' I hq
 | ok fl =>
  cases fl with
  | ret u=>exact I.after hq
  | next=>exact False.elim hq
  | brk=>exact False.elim hq
  | cont=>exact False.elim hq
def tCallV(P:Program)(w:World)(K:W.Frag)(mg:Str->Option Value)(base:Heap)(CX:CXT)(k:Nat)(i:Nat)(E:XK)(t:TA):TE:=λσ H Q =>
 ∃ v sp,σ[i]?=some (some v)/\CloOk P w K mg base CX k sp v H/\t σ H λvs H1=>CloOk P w K mg base CX k sp v H1/\sp vs H1 Q E
theorem Zji{pins:List (Addr×Obj)}{σ:St}{H:Hp}{s:Shared}{f:Addr}{fo:Obj}{fd:FuncData}(I:Inv X pins σ H s)(h:H f=some (.frz fo (.own f)))(d:fo.data=.func fd):PySem.W.FnAt f s.heap:=by
 have e:=(I.hok f _ h).1
 obtain⟨oc,od,dt,sl⟩:=fo
 cases (show dt=_ from d)
 exact⟨oc,od,fd,sl,e⟩
theorem ZkT(hr:Room k X.A)(hx:Passes CX X E)(ha:PA X (e::es) t)(hN:X.N[i]?=some x:=by rfl)(hv:Vis X.env.scope x:=by first|exact Or.inl rfl|exact Or.inr (Or.inl rfl)|exact Or.inr (Or.inr rfl))
  (hd:(x == ("__debug__" : Str))=false:=by decide) (hcd:(x == ("__classdict__" : Str))=false:=by decide)
  (he:starEach (e::es) X.env=(false,eval e X.env)::starEach es X.env:=by rfl) (hpl:(backTo pos (starEach es X.env)).any (·.1)=false:=by rfl) :
  PE X (.Call (.Name x p) (e::es) [] pos) (tCallV X.prog X.w X.K X.mg X.base CX k i E t):=by
 intro pins s σ H Q I ⟨v,sp,hσ,c,h⟩
 refine wpAny_Call_Name_kw (thn (Zlt (pos:=p) hN hv hd hcd pins s σ H (λv' H'=>v'=v/\H'=H) I ⟨v,hσ,rfl,rfl⟩) λu s0 ⟨v',H',I0,r0,ev,eH⟩=>?_)
 subst ev eH
 obtain⟨f,fo,fd,e1,e2,e3⟩:=c.at'
 subst e1
 obtain rfl:u=Value.ref f:=r0
 refine PySem.W.callWith_F (Zji I0 e2 e3) (thn (ha pos pins s0 σ H' _ I0 h) λus s1 ⟨vs,H1,I1,r,c1,q⟩=>?_) he hpl
 obtain⟨f',fo',fd',e1',e2',e3'⟩:=c1.at'
 cases e1'
 exact⟨Zji I1 e2' e3',Zmw c1 hr hx I1 r q⟩
end
def Own(X:Cx)(b:Addr):Prop:=∃ x,X.fn x=true/\X.env.cells.lookup x=some b
structure Lent(X:Cx)(σ:St)(H H2:Hp):Prop where
 same:Same H H2
 cell:∀ (i:Nat) (x:Str) (c:Addr) (v:V),X.N[i]?=some x->X.fn x=true->X.env.scope.names.lookup x=some .cell->X.env.cells.lookup x=some c->σ[i]?=some (some v)->∃ o u,H2 c=some (.frz o (.own c))/\o.data=.cell (some u)/\RelV v u
 out:∀ b,¬ Own X b->H2 b=H b
 own:∀ b,Own X b->H b=none/\∃ o v,H2 b=some (.frz o (.own b))/\o.data=.cell v
section
variable {X:Cx}{pins:List (Addr×Obj)}{σ:St}{H:Hp}{s:Shared}
theorem Inv.lendOk(I:Inv X pins σ H s):LendOk (Own X) s.heap H :=
 ⟨λb ⟨x,_,e⟩=>I.freeC x b e,λb ⟨x,_,e⟩=>let ⟨_,o,h,_⟩:=I.cell x b e;⟨o,h⟩⟩
theorem Inv.own_low(I:Inv X pins σ H s){b:Addr}(h:Own X b):X.s₀.heap.objs.size<=b:=let ⟨x,hf,e⟩:=h;I.ok.cab x b hf e
theorem Inv.own_fs(I:Inv X pins σ H s){b:Addr}(h:Own X b):b∉frs X.stack:=λhb=>by
 rcases List.mem_cons.mp (I.stkSub b hb) with e|hb
 ·obtain⟨x,_,q⟩:=h
  exact I.cne x b q e
 ·obtain⟨_,o,ho,_⟩:=I.ok.funs.mem hb
  exact absurd (Nat.lt_of_lt_of_le (Heap.lt_size ho) (I.own_low h)) (Nat.lt_irrefl _)
theorem Inv.env0L(I:Inv X pins σ H s):Env0 X.prog X.w X.K X.mg X.base X.A X.stack s (lend (Own X) s.heap H):=by
 have e:=I.env0
 refine⟨e.frames,e.mod,λb o q=>⟨(e.bs b o q).1,?_⟩,e.bsz,e.funs,λb hb=>?_,ZkR I.lendOk e.hok,e.bare⟩
 ·rw[Zcm]
  ·exact (e.bs b o q).2
  ·intro h
   exact absurd (Nat.lt_of_lt_of_le (Heap.lt_size q) (Nat.le_trans I.ok.bsz (I.own_low h))) (Nat.lt_irrefl _)
 ·rw[Zcm λh=>I.own_fs h hb]
  exact e.frf b hb
theorem Inv.lent(I:Inv X pins σ H s):Lent X σ H (lend (Own X) s.heap H):=by
 refine⟨Zjh I.lendOk,λi x c v hN hf hk hc hσ=>?_,λb h=>Zcm h,λb h=>⟨I.lendOk.no b h,?_⟩⟩
 ·obtain⟨m,hn,hl⟩:=I.loc
  obtain⟨u,r,l⟩:=hl i x v hN hσ (.inr (.inl hk))
  obtain⟨o,e1,e2⟩:=Zfh I.lendOk (b:=c) ⟨x,hf,hc⟩
  rcases l with⟨hl,_⟩|⟨_,c',hc',ob,e3,e4⟩
  ·have hl:X.env.scope.names.lookup x=some .local:=hl
   rw[hk] at hl
   cases hl
  ·rw[hc] at hc'
   cases hc'
   rw[e1] at e3
   cases e3
   exact⟨o,u,e2,e4,r⟩
 ·obtain⟨o,e1,e2⟩:=Zfh I.lendOk h
  obtain⟨x,_,hc⟩:=h
  obtain⟨v,ob,e3,e4⟩:=I.cell x b hc
  rw[e1] at e3
  cases e3
  exact⟨o,v,e2,e4⟩
end
def tCallL(X:Cx)(sp:Sp)(dvs:List V)(E:XK)(t:TA):TE:=λσ H Q=>t σ H λvs H1=>∀ H2,Lent X σ H1 H2->sp (vs++dvs) H2 (λv H3=>Q v (unl (Own X) H3)) E
def PassesL(CX:CXT)(X:Cx)(E:XK):Prop:=∀ (pins:List (Addr×Obj)) (σ:St) (H:Hp) (s:Shared) (e:Value) (s':Shared),Inv X pins σ H s->CX X.stack (lend (Own X) s.heap H) s E e s'->X.xe e s'
theorem pass0L{X:Cx}{E:XK}:PassesL CX0 X E:=λ_ _ _ _ _ _ _ h=>h.elim
section
variable {X:Cx}{CX:CXT}{k:Nat}{f:Addr}{fd:FuncData}{ps:List Str}{sp:Sp}{dvs:List V}{ds:List Value}{E:XK}{x:Str}{p pos:Pos}{e:Expr}{es:List Expr}{t:TA}
theorem Zmx{pins:List (Addr×Obj)}{σ:St}{H:Hp}{s:Shared}{Q:VK}{us:List Value}{vs:List V}(F:FnOk X.prog X.w X.K X.mg X.base CX k f fd ps sp)(hr:Room k X.A)(hb:Binds X.K fd ps ds)(hd:Vals dvs ds)(hx:PassesL CX X E)
  (I:Inv X pins σ H s) (r:Vals vs us) (h:∀ H2,Lent X σ H H2->sp (vs++dvs) H2 (λv H3=>Q v (unl (Own X) H3)) E):wpAny (model X.prog X.w) X.A (call (.ref f) us) (EP X pins σ Q) X.xe s:=by
 have r2:Vals (vs++dvs) (us++ds):=r.append hd
 have h:=h _ I.lent
 have hl:(us++ds).length=ps.length:=by rw[<- r2.length];exact F.len _ _ _ _ h
 refine wpAny_call (codeAny_mono (F.run X.A X.stack s _ ⟨us,[]⟩ (us++ds) (vs++dvs) _ E hr I.env0L (hb s us I.kIn hl) r2 h) λr s' hq=>?_)
 cases r with
 | error e=>exact hx pins σ H s e s' I hq
 | ok fl =>
  cases fl with
  | ret u =>
   obtain⟨v,H',os,bare,un,hok,r,q⟩:=hq
   exact I.after ⟨v,unl (Own X) H',os,bare,Zoe I.lendOk un hok λb hb=>I.own_fs hb,Zmu I.lendOk un hok,r,q⟩
  | next=>exact False.elim hq
  | brk=>exact False.elim hq
  | cont=>exact False.elim hq
theorem ZcT(c:Cal X.prog X.w X.K X.mg X.base CX k x ps dvs sp)(hr:Room k X.A)(hg:Gl X x)(hx:PassesL CX X E)(ha:PA X (e::es) t)(hdb:(x == ("__debug__" : Str))=false:=by decide)
  (he:starEach (e::es) X.env=(false,eval e X.env)::starEach es X.env:=by rfl) (hpl:(backTo pos (starEach es X.env)).any (·.1)=false:=by rfl) :
  PE X (.Call (.Name x p) (e::es) [] pos) (tCallL X sp dvs E t):=by
 obtain⟨f,fd,ds,h1,h2,h3,h4,h5⟩:=c.ex
 intro pins s σ H Q I h
 refine wpAny_Call_Name_kw (ZgE I hg h2 ?_ hdb)
 refine PySem.W.callWith_K (h₀:=X.base) I.ok.mod.kin h3 (thn (ha pos pins s σ H _ I h) λus s1 ⟨vs,H1,I1,r,q⟩=>⟨I1.kIn,?_⟩) he hpl
 exact Zmx h1 hr h4 h5 hx I1 r q
end
end L2
end
section
namespace L2
open PySem PySem.Spec PyProof.Rows
theorem Zfj{pos:Pos}{a b:Nat}{c cv:Value}(l:List Value)(h:TriplesOk l)(hc:codeAmong pos (l++[rawInt a,rawInt b,c])=some cv):codeAmong pos l=some cv\/(pos.line=a/\pos.col=b/\cv=c):=by
 fun_induction TriplesOk l with
 | case1 =>
  simp only[List.nil_append,rawInt,codeAmong] at hc
  split at hc
  ·rename_i hq
   simp only[Bool.and_eq_true,beq_iff_eq] at hq
   exact .inr ⟨by omega,by omega,(Option.some.inj hc).symm⟩
  ·cases hc
 | case2 a' t b' u x rest ih =>
  simp only[List.cons_append,codeAmong] at hc ⊢
  split at hc
  ·rename_i hq;rw[if_pos hq];exact .inl hc
  ·rename_i hq;rw[if_neg hq];exact ih h hc
 | case3 l h1 h2=>exact h.elim
def Made(name qual:Str)(params:Arguments)(body:List Stmt)(scope:Scope)(cl:List (Str×Addr))(P:Addr)(H H':Hp)(f:Addr):Prop :=
 ∃ (c:Addr) (co:Obj) (doc pm ctv:Value),CodeO co qual/\(H c=none\/H c=some (.frz co (.own P)))/\c≠f/\H f=none/\H'=upd (upd H c (.frz co (.own P))) f (.frz (PySem.W.fnMade name qual params body scope cl doc pm c ctv) (.own f))
theorem Zog{H:Hp}{c:Addr}{o:HO}(h:H c=some o):upd H c o=H:=by
 funext b
 by_cases e:b=c
 ·rw[e,Zak,h]
 ·rw[Zah e]
theorem Made.same{name qual:Str}{params:Arguments}{body:List Stmt}{scope:Scope}{cl:List (Str×Addr)}{P f:Addr}{H H':Hp}(m:Made name qual params body scope cl P H H' f):Same H H':=by
 obtain⟨c,co,doc,pm,ctv,_,hc,hne,hf,rfl⟩:=m
 intro b o e
 rw[Zah (Zan e hf)]
 by_cases hb:b=c
 ·subst hb
  rcases hc with z|z
  ·rw[z] at e;cases e
  ·rw[Zak,<- z,e]
 ·rw[Zah hb];exact e
structure Clos(X:Cx)(scope:Scope)(cl:List (Str×Addr)):Prop where
 le:∀ x c,cl.lookup x=some c->X.env.cells.lookup x=some c
 has:∀ x,(x,NameKind.free)∈scope.names->∃ c,cl.lookup x=some c
 inj:∀ x y c,cl.lookup x=some c->cl.lookup y=some c->x=y
def tDef(X:Cx)(name qual:Str)(params:Arguments)(body:List Stmt)(scope:Scope)(P:Addr)(pos:Pos)(i:Nat):TS:=λD σ H =>
 ∃ q,H P=some (.tbq q)/\q pos.line pos.col=qual/\∀ cl f H',Clos X scope cl->Made name qual params body scope cl P H H' f->D.nx (σ.set i (some (.ref f))) H'
section
variable {X:Cx}{pins:List (Addr×Obj)}{σ:St}{H:Hp}{s:Shared}
theorem Inv.fnMade{P c:Addr}{q:Nat->Nat->Str}{ps:Array Value}{co fo:Obj}{h':Heap}{t':Nat}{pos:Pos}(I:Inv X pins σ H s)(hP:H P=some (.tbq q))(hPs:s.heap.get? P=some (PySem.W.tabObj ps))(ht:TriplesOk ps.toList)
  (hall:∀ pos cv,codeAmong pos ps.toList=some cv->∃ c o,cv=.ref c/\H c=some (.frz o (.own P))/\CodeO o (q pos.line pos.col))
  (hx:Heap.ExtBut P s.heap h') (hge:s.heap.objs.size<=c) (hlt:c<h'.objs.size) (hco:h'.get? c=some co) (hq:CodeO co (q pos.line pos.col)) (htb:h'.get? P=some (PySem.W.tabObj (ps++#[rawInt pos.line,rawInt pos.col,.ref c]))) (hfo:fo.isFreed=false) :
  Inv X pins σ (upd (upd H c (.frz co (.own P))) h'.objs.size (.frz fo (.own h'.objs.size))) { s with heap:=h'.push fo,toks:=t' }:=by
 have hc0:H c=none:=I.hok.fresh hge
 have hsz:s.heap.objs.size<=h'.objs.size:=Nat.le_trans hge (Nat.le_of_lt hlt)
 have hf0:H h'.objs.size=none:=I.hok.fresh hsz
 have hcP:c≠P:=λz=>by rw[z,hP] at hc0;cases hc0
 have hfP:h'.objs.size≠P:=λz=>by rw[z,hP] at hf0;cases hf0
 have hcf:c≠h'.objs.size:=Nat.ne_of_lt hlt
 have up:∀ {b:Addr} {u:HO},H b=some u->upd (upd H c (.frz co (.own P))) h'.objs.size (.frz fo (.own h'.objs.size)) b=some u:=λ{b u} e=>by
  rw[Zah (Zan e hf0),Zah (Zan e hc0)];exact e
 have kp:∀ b o,b≠P->s.heap.get? b=some o->(h'.push fo).get? b=some o:=λb o hb e=>Heap.get?_push_of_some _ (hx b o hb e)
 have nP:∀ {b:Addr},H b=none->b≠P:=λ{b} n z=>by rw[z,hP] at n;cases n
 refine I.un ⟨λb u q n _ _=>kp b u (nP n) q,λb u q n _ _=>⟨u.slots,kp b u (nP n) q⟩,λb u q n _=>?_,λb u q _=>?_,λb xs q=>up q,λb u xs q=>up q,λb ps q=>⟨#[],by simpa using up q⟩⟩ λa u e=>?_
 ·have hb:=Heap.lt_size q
  rw[Zah (Nat.ne_of_lt (Nat.lt_of_lt_of_le hb hsz)),Zah (Nat.ne_of_lt (Nat.lt_of_lt_of_le hb hge))]
  exact n
 ·by_cases hb:b=P
  ·subst hb
   exact⟨_,Heap.get?_push_of_some _ htb⟩
  ·exact⟨u,kp b u hb q⟩
 ·by_cases haf:a=h'.objs.size
  ·subst haf
   rw[Zak] at e
   cases e
   exact⟨Heap.get?_push_size _ hfo,fo,Heap.get?_push_size _ hfo⟩
  ·rw[Zah haf] at e
   by_cases hac:a=c
   ·subst hac
    rw[Zak] at e
    cases e
    exact⟨Heap.get?_push_of_some _ hco,co,Heap.get?_push_of_some _ hco⟩
   ·rw[Zah hac] at e
    by_cases haP:a=P
    ·subst haP
     rw[hP] at e
     cases e
     refine⟨_,Heap.get?_push_of_some _ htb,?_,λpos' cv z=>?_⟩
     ·have:=TriplesOk_snoc pos.line pos.col (.ref c) ps.toList ht
      simpa using this
     ·have z':codeAmong pos' (ps.toList++[rawInt pos.line,rawInt pos.col,.ref c])=some cv:=by simpa using z
      rcases Zfj ps.toList ht z' with z|⟨e1,e2,e3⟩
      ·obtain⟨c',o',r1,r2,r3⟩:=hall pos' cv z
       exact⟨c',o',r1,up r2,r3⟩
      ·refine⟨c,co,e3,?_,?_⟩
       ·rw[Zah hcf,Zak]
       ·rw[e1,e2];exact hq
    ·refine (I.hok a u e).stay (λb u' hb z=>kp b u' ?_ z) (λb z=>up z) (λb xs z=>up z) λb o z=>up z
     rcases hb with r|r
     ·rw[r];exact haP
     ·exact λz=>by rw[z,hP] at r;cases r
theorem Zdh{name qual:Str}{params:Arguments}{body:List Stmt}{scope:Scope}{pos:Pos}{i:Nat}{c0 P:Addr}(hN:X.N.Nodup)(hi:X.N[i]?=some name)(hx:Loc X.env.scope name)(hd0:params.defaults=[])(hk0:params.kw_defaults=[])
  (ha:annTrees params none X.env=[]) (hq:qualnameIn X.env name name=qual) (hcode:X.env.code=.ref c0) (hC:PySem.W.codeHdIn X.K c0 P=true) (hfr:∀ y∈scope.names,y.2=.free->X.env.scope.names.lookup y.1=some .cell\/X.env.scope.names.lookup y.1=some .free)
  (hB:X.base.BuiltinsAt X.mg mainGlobals) (hf:X.fn name=true\/X.env.scope.names.lookup name=some .local:=by first|exact .inl rfl|exact .inr rfl|assumption) :
  PS X (.FunctionDef name params body [] none [] scope none name pos) (tDef X name qual params body scope P pos i):=by
 intro pins s σ H D I ⟨q,hP,hqp,h⟩
 refine PySem.W.nestDef_K hd0 hk0 ha ?_
 rw[hq]
 obtain⟨cl,hcl,hle,hhas⟩:=ZeJ (scope:=scope) (env:=X.env) λy hy e=>I.ok.has y.1 (hfr y hy e)
 have C:Clos X scope cl:=⟨hle,hhas,λx y c e1 e2=>I.ok.inj x y c (hle x c e1) (hle y c e2)⟩
 obtain⟨ps,hPs,ht,hall⟩:=I.hok P _ hP
 have hG:s.heap.Ns mainGlobals X.mg:=I.mod.glob.keeps I.bk
 have hCd:=PySem.W.codeHd_of_K I.kIn hC
 obtain⟨bm,ob,b1,b2,b3,_,b5,b6,b7,b8⟩:=hB
 have nP:∀ {b:Addr} {o:Obj},X.base.get? b=some o->b≠P:=λ{b o} e z=>by
  have:=(I.bs b o e).2
  rw[z,hP] at this;cases this
 have hBA:s.heap.BuiltinsAt X.mg P:=⟨bm,ob,b1,b2,b3,nP b5,I.bk bm ob b5,b6,b7,b8⟩
 have hgP:mainGlobals≠P:=by
  obtain⟨o,es,ep,e,_⟩:=I.mod.glob
  exact nP e
 cases hca:codeAmong pos ps.toList with
 | none =>
  refine PySem.W.makeFunction_K hcl I.ok.glob hG hcode hCd hPs ht hca hgP hBA λc' ctv doc h' tk hx' hge hlt hrec htb=>?_
  obtain⟨c2,co,vs,t,ec,e1,e2,e3⟩:=hrec
  cases ec
  have I1:=I.fnMade (t':=tk) (fo:=PySem.W.fnMade name qual params body scope cl doc ((X.mg "__name__").getD .none) c' ctv) hP hPs ht hall hx' hge hlt e1 (hqp▸⟨vs,t,e2,e3⟩) htb rfl
  refine Zce (v:=.ref h'.objs.size) I1 hN hi hx rfl (λs' I2 _=>?_) hf
  refine⟨_,_,I2,h cl _ _ C ⟨c',co,doc,_,ctv,⟨vs,t,e2,e3⟩,.inl (I.hok.fresh hge),Nat.ne_of_lt hlt,I.hok.fresh (Nat.le_trans hge (Nat.le_of_lt hlt)),rfl⟩⟩
 | some cv =>
  obtain⟨c,co,rfl,hcH,hco⟩:=hall pos cv hca
  refine PySem.W.makeFunction_hit hcl I.ok.glob hG hcode hCd hPs ht hca hBA λctv doc h' tk hk hsz=>?_
  have hf0:H h'.objs.size=none:=I.hok.fresh hsz
  have I1:Inv X pins σ (upd H h'.objs.size (.frz (PySem.W.fnMade name qual params body scope cl doc ((X.mg "__name__").getD .none) c ctv) (.own h'.objs.size))) { s with heap:=h'.push (PySem.W.fnMade name qual params body scope cl doc ((X.mg "__name__").getD .none) c ctv),toks:=tk }:=by
   refine I.born hf0 (Heap.get?_none_of_le hsz) (λb u e=>Heap.get?_push_of_some _ (hk b u e)) ⟨Heap.get?_push_size _ rfl,_,Heap.get?_push_size _ rfl⟩
  refine Zce (v:=.ref h'.objs.size) I1 hN hi hx rfl (λs' I2 _=>?_) hf
  refine⟨_,_,I2,h cl _ _ C ⟨c,co,doc,(X.mg "__name__").getD .none,ctv,hqp▸hco,.inr hcH,(λz=>by rw[z,hf0] at hcH;cases hcH),hf0,?_⟩⟩
  rw[Zog hcH]
end
end L2
end
section
namespace L2
open PySem PySem.Spec PyProof.Rows
def envF(qual:Str)(scope:Scope)(cl:List (Str×Addr))(L f:Addr)(cd:Value):Env :=
 { scope:=scope,locals:=L,globals:=mainGlobals,cells:=cellsFrom (L+1) scope.names cl,qual:=qual ++ ".<locals>.",func:=some f,code:=cd,frame:=some L,builtins:=builtinsNs }
theorem newEnvF{M:Model}{A:Around}{E:Value->Shared->Prop}{s:Shared}{scope:Scope}{cl:List (Str×Addr)}{binds:List (Str×Value)}{qual:Str}{f:Addr}{cd:Value}{Q:Env->Shared->Prop}
  (h:wpAny M A (forIn binds PUnit.unit λ(x:Str×Value) _=>do storeName (envF qual scope cl s.heap.objs.size f cd) x.1 x.2;pure (ForInStep.yield PUnit.unit)) (λ_ s'=>Q (envF qual scope cl s.heap.objs.size f cd) s') E
   { s with heap:=pushCells (s.heap.push { cls:=.type "frame",data:=.dict #[] }) scope.names }) :
  wpAny M A (newFunctionEnv scope mainGlobals cl binds (qual ++ ".<locals>.") (some f) cd none builtinsNs) Q E s:=by
 simp only[newFunctionEnv,Option.isSome_none,Bool.false_eq_true,if_false]
 refine wpAny_bind (wpAny_alloc ?_)
 refine wpAny_bind (wpAny_layCells _ (λname kind cells=>by cases hkc:kind == NameKind.cell<;>simp[hkc]) _ _ _ _ ?_)
 rw[show ({ s with heap:=s.heap.push { cls:=.type "frame",data:=.dict #[] } }:Shared).heap.objs.size=s.heap.objs.size+1 from Heap.size_push ..]
 exact wpAny_bind (thn h λ_ s' q=>wpAny_pure q)
def cxF(CX:CXT)(P:Program)(w:World)(K:W.Frag)(mg:Str->Option Value)(base:Heap)(N:List Str)(qual:Str)(scope:Scope)(cl:List (Str×Addr))(f:Addr)(cd:Value)(A:Around)(outer:List Env)(s:Shared)(H:Hp)(E:XK):Cx where
 prog:=P
 w:=w
 K:=K
 mg:=mg
 base:=base
 A:=A.deeper (envF qual scope cl s.heap.objs.size f cd)
 N:=N
 s₀:=s
 H₀:=H
 env:=envF qual scope cl s.heap.objs.size f cd
 outer:=outer
 stack:=envF qual scope cl s.heap.objs.size f cd::outer
 ex:=[]
 calm:=true
 fn:=λx=>scope.names.lookup x == some .cell
 pn:=[]
 xe:=λe s'=>wpAny (model P w) (A.deeper (envF qual scope cl s.heap.objs.size f cd)) (leaving (envF qual scope cl s.heap.objs.size f cd) e) (λ_ s''=>CX outer H s E e s'') (λe' s''=>CX outer H s E e' s'') s'
structure FnScopeF(N ps:List Str)(sc:Scope):Prop where
 kind:sc.kind=.function
 co:sc.isCoroutine=false
 gen:sc.isGenerator=false
 nd:N.Nodup
 pre:N.take ps.length=ps
 par:∀ x∈ps,sc.names.lookup x=some .local\/sc.names.lookup x=some .cell
def FreeOk(N:List Str)(scope:Scope)(cl:List (Str×Addr))(h:Heap)(σ:St):Prop :=
 σ.length=N.length/\∀ (i:Nat) (x:Str) (v:V),N[i]?=some x->σ[i]?=some (some v)->scope.names.lookup x=some .free/\(∀ y∈scope.names,y.1=x->y.2≠.cell)/\∃ c o u,cl.lookup x=some c/\h.get? c=some o/\o.data=.cell (some u)/\RelV v u
section
variable {CX:CXT}{P:Program}{w:World}{K:W.Frag}{mg:Str->Option Value}{base:Heap}{N ps:List Str}{qual:Str}{scope:Scope}{cl:List (Str×Addr)}{f:Addr}{cd:Value}{A:Around}{outer:List Env}{s:Shared}{H:Hp}{E:XK}{σ:St}
theorem Zmy(S:FnScopeF N ps scope)(hd:A.handled=none)(e0:Env0 P w K mg base A outer s H)(hfr:∀ x,(x,NameKind.free)∈scope.names->∃ c,cl.lookup x=some c)(hinj:∀ x y c,cl.lookup x=some c->cl.lookup y=some c->x=y)
  (hno:∀ x c,cl.lookup x=some c->H c=none/\∃ v,s.heap.IsCell c v) (F:FreeOk N scope cl s.heap σ) :
  Inv (cxF CX P w K mg base N qual scope cl f cd A outer s H E) [] σ H { s with heap:=pushCells (s.heap.push { cls:=.type "frame",data:=.dict #[] }) scope.names }:=by
 have e1:(s.heap.push { cls:=.type "frame",data:=.dict #[] }).objs.size=s.heap.objs.size+1:=Heap.size_push ..
 have k1:∀ b o,s.heap.get? b=some o->(pushCells (s.heap.push { cls:=.type "frame",data:=.dict #[] }) scope.names).get? b=some o :=
  λb o e=>pushCells_keeps _ _ b o (Heap.get?_push_of_some _ e)
 have kC:(pushCells (s.heap.push { cls:=.type "frame",data:=.dict #[] }) scope.names).Ns s.heap.objs.size λ_=>none :=
  (Heap.Ns.new s.heap (.type "frame")).keeps (pushCells_keeps scope.names _)
 have clLt:∀ x c,cl.lookup x=some c->c<s.heap.objs.size:=λx c e=>by
  obtain⟨_,v,q⟩:=hno x c e
  exact q.lt
 have cells:∀ x c,(cellsFrom (s.heap.objs.size+1) scope.names cl).lookup x=some c->s.heap.objs.size+1<=c\/cl.lookup x=some c:=λx c e=>ZbN x _ _ _ c e
 have noA:∀ b:Addr,b∉(cxF CX P w K mg base N qual scope cl f cd A outer s H E).ex:=λb z=>absurd (show b∈([]:List Addr) from z) (by simp)
 refine⟨⟨e0.mod,S.kind,rfl,rfl,Nat.le_refl _,?_,?_,?_,λ_=>hd,Around.frames_deeper e0.frames,.inr ⟨rfl,rfl⟩,λb z=>absurd z (noA b),e0.bs,e0.bsz,λb _ _=>noA b,λb z=>absurd z (noA b),e0.funs,e0.frf⟩,
  rfl,e0.bare,Un.kept k1,?_,?_,e0.hok.fresh (Nat.le_refl _),?_,λp hp=>absurd (show p∈([]:List (Addr×Obj)) from hp) (by simp),e0.hok.kept k1,F.1⟩
 ·exact Zbw scope.names _ cl hinj λx c h=>Nat.lt_succ_of_lt (clLt x c h)
 ·intro x hx
  have hx:scope.names.lookup x=some .cell\/scope.names.lookup x=some .free:=hx
  refine Option.isSome_iff_exists.mp (PySem.W.cellsFrom_some scope.names _ cl ?_)
  rcases hx with h|h
  ·exact .inl h
  ·exact .inr (Option.isSome_iff_exists.mpr (hfr x (PySem.mem_of_lookup h)))
 ·intro x c hx hc
  have hx:scope.names.lookup x=some .cell:=by simpa [cxF] using hx
  have:=Zbx x (s.heap.objs.size+1) scope.names (s.heap.objs.size+1) cl (Nat.le_refl _) (.inl (PySem.mem_of_lookup hx)) c hc
  exact Nat.le_trans (Nat.le_succ _) this
 ·refine⟨_,kC,λi x v h1 h2 h3=>?_⟩
  obtain⟨q1,q2,c,o,u,q3,q4,q5,r⟩:=F.2 i x v h1 h2
  refine⟨u,r,.inr ⟨.inr q1,c,?_,o,k1 c o q4,q5⟩⟩
  show (cellsFrom (s.heap.objs.size+1) scope.names cl).lookup x=some c
  rw[Zby _ _ _ q2]
  exact q3
 ·intro x c e
  have e:(cellsFrom (s.heap.objs.size+1) scope.names cl).lookup x=some c:=e
  rw[<- e1] at e
  exact Za3 scope.names _ cl (λy d hy=>by
   obtain⟨_,v,q⟩:=hno y d hy
   exact⟨v,q.keeps λb o z=>Heap.get?_push_of_some _ z⟩) x c e
 ·intro x c e
  rcases cells x c e with q|q
  ·exact e0.hok.fresh (Nat.le_trans (Nat.le_succ _) q)
  ·exact (hno x c q).1
def setAll:Nat->List V->St->St
 | _,[],σ=>σ
 | j,v::vs,σ=>setAll (j+1) vs (σ.set j (some v))
theorem ZhA{X:Cx}{M:Model}{A:Around}{E:Value->Shared->Prop}(hN:X.N.Nodup):∀ (ps:List Str) (us:List Value) (vs:List V) (j:Nat) (σ:St) (H:Hp) (s:Shared) (Q:PUnit->Shared->Prop),Vals vs us->ps.length=us.length ->
  (∀ i x,ps[i]?=some x->X.N[j+i]?=some x/\Loc X.env.scope x/\(X.fn x=true\/X.env.scope.names.lookup x=some .local))->Inv X [] σ H s->(∀ s',Inv X [] (setAll j vs σ) H s'->Q ⟨⟩ s') ->
  wpAny M A (forIn (ps.zip us) PUnit.unit λ(x:Str×Value) _=>do storeName X.env x.1 x.2;pure (ForInStep.yield PUnit.unit)) Q E s
 | [],us,vs,j,σ,H,s,Q,r,hl,hp,I,h=>by
  cases us with
  | nil =>
   cases r
   rw[List.zip_nil_left,List.forIn_nil]
   exact wpAny_pure (h s I)
  | cons _ _=>simp at hl
 | x::ps,us,vs,j,σ,H,s,Q,r,hl,hp,I,h=>by
  cases r with
  | nil=>simp at hl
  | cons r rs =>
   rw[List.zip_cons_cons,List.forIn_cons]
   obtain⟨h1,h2,h3⟩:=hp 0 x rfl
   refine wpAny_bind (wpAny_bind (Zce I hN h1 h2 r (λs' I' _=>wpAny_pure ?_) h3))
   exact ZhA hN ps _ _ (j+1) _ H s' Q rs (by simpa using hl) (λi y hy=>by
    have:=hp (i+1) y (by simpa using hy)
    rwa [show j+(i+1)=j+1+i by omega] at this) I' h
def CellOf(cl:List (Str×Addr))(b:Addr):Prop:=∃ x,cl.lookup x=some b
theorem Zoh{k:Nat}{name:Str}{params:Arguments}{body:List Stmt}{doc pm ctv:Value}{c:Addr}{co:Obj}{Pt:Addr}{sp:Sp}{G:Hp}(S:FnScopeF N ps scope)
  (hf:G f=some (.frz (PySem.W.fnMade name qual params body scope cl doc pm c ctv) (.own f))) (hc:G c=some (.frz co (.own Pt))) (hco:CodeO co qual)
  (hfr:∀ x,(x,NameKind.free)∈scope.names->∃ c,cl.lookup x=some c) (hinj:∀ x y c,cl.lookup x=some c->cl.lookup y=some c->x=y)
  (hcl:∀ x d,cl.lookup x=some d->∃ o v,G d=some (.frz o (.own d))/\o.data=.cell v)
  (hbind:∀ (s:Shared) (us:List Value),us.length=ps.length->BindsTo s (PySem.W.fnX name qual params body scope cl .none .none doc pm none (.ref c) ctv) ⟨us,[]⟩ (ps.zip us))
  (len:∀ vs H Q E,sp vs H Q E->vs.length=ps.length)
  (hσ:∀ h:Heap,(∀ x d o,cl.lookup x=some d->G d=some (.frz o (.own d))->h.get? d=some o)->FreeOk N scope cl h σ)
  (hbody:∀ (A:Around) (outer:List Env) (s:Shared) (H:Hp) (vs:List V) (Q:VK) (E:XK),Room k (A.deeper (envF qual scope cl s.heap.objs.size f (.ref c)))->Same G H->sp vs H Q E ->
   ∃ t,PSs (cxF CX P w K mg base N qual scope cl f (.ref c) A outer s (unl (CellOf cl) H) E).nox body t/\t { nx:=λ_ H'=>(∀ b,CellOf cl b->H' b=none)->Q .non (rel (CellOf cl) H H'),rt:=λv H'=>(∀ b,CellOf cl b->H' b=none)->Q v (rel (CellOf cl) H H') } (setAll 0 vs σ) (unl (CellOf cl) H)) :
  CloOk P w K mg base CX (k+1) sp (.ref f) G:=by
 refine⟨⟨f,_,_,rfl,hf,rfl⟩,λf' ef A outer s H us vs Q E hr e0 m r hsp=>?_⟩
 cases ef
 have hl:=len _ _ _ _ hsp
 have hlu:us.length=ps.length:=by rw[<- r.length];exact hl
 have hfo:=(e0.hok f _ (m _ _ hf)).1
 have hcob:=(e0.hok c _ (m _ _ hc)).1
 obtain⟨ws,t,d1,d2⟩:=hco
 have hC:∀ b,CellOf cl b->∃ o,H b=some (.frz o (.own b)):=λb ⟨x,e⟩=>by
  obtain⟨o,v,z,_⟩:=hcl x b e
  exact⟨o,m _ _ z⟩
 have hfs:∀ b,CellOf cl b->b∉frs outer/\b∉([]:List Addr):=λb hb=>by
  refine⟨λz=>?_,by simp⟩
  obtain⟨o,e⟩:=hC b hb
  rw[e0.frf b z] at e;cases e
 have e1:Env0 P w K mg base A outer s (unl (CellOf cl) H):=by
  refine⟨e0.frames,e0.mod,λb o q=>⟨(e0.bs b o q).1,?_⟩,e0.bsz,e0.funs,λb hb=>?_,ZkS hC e0.hok,e0.bare⟩
  ·by_cases hb:CellOf cl b
   ·exact Zd8 hb
   ·rw[ZaX hb];exact (e0.bs b o q).2
  ·rw[ZaX λz=>(hfs b z).1 hb];exact e0.frf b hb
 have lim:s.heap.NoLimit:=e0.mod.nolimit.keeps λb o e=>(e0.bs b o e).1
 refine codeAny_call_function hr.depth hfo rfl S.co S.gen rfl ⟨c,co,ws,t,rfl,hcob,d1,d2⟩ (hbind s us hlu _ _ _ _ ?_)
 refine newEnvF (f:=f) (cd:=.ref c) ?_
 obtain⟨t,ht,hq⟩:=hbody A outer s H vs Q E (hr.deeper _) m hsp
 have I0:Inv (cxF CX P w K mg base N qual scope cl f (.ref c) A outer s (unl (CellOf cl) H) E) [] σ (unl (CellOf cl) H) { s with heap:=pushCells (s.heap.push { cls:=.type "frame",data:=.dict #[] }) scope.names } :=
  Zmy S hr.hd e1 hfr hinj (λx d e=>⟨Zd8 ⟨x,e⟩,by
   obtain⟨o,v,z,y⟩:=hcl x d e
   exact⟨v,o,(e0.hok d _ (m _ _ z)).1,y⟩⟩) (hσ s.heap λx d o e z=>(e0.hok d _ (m _ _ z)).1)
 refine ZhA (X:=cxF CX P w K mg base N qual scope cl f (.ref c) A outer s (unl (CellOf cl) H) E) S.nd ps us vs 0 σ _ _ _ r hlu.symm (λi x hx=>?_) I0 λs1 I=>?_
 ·have hxm:=List.mem_of_getElem? hx
  refine⟨?_,S.par x hxm,?_⟩
  ·rw[Nat.zero_add]
   have hi:i<ps.length:=(List.getElem?_eq_some_iff.mp hx).1
   rw[<- S.pre,List.getElem?_take_of_lt hi] at hx
   exact hx
  ·rcases S.par x hxm with z|z
   ·exact .inr z
   ·refine .inl ?_
    show (scope.names.lookup x == some NameKind.cell)=true
    rw[z];rfl
 ·refine⟨I.nolimit,codeAny_func ?_⟩
  refine wpAny_mono (ht [] s1 _ _ _ (I.wish _) hq) (λfl s' hs=>?_) λe s' hs=>?_
  ·replace hs:=SP.unwish hs
   have fin:∀ {σ':St} {H':Hp} {v:V} {u:Value},Inv (cxF CX P w K mg base N qual scope cl f (.ref c) A outer s (unl (CellOf cl) H) E) [] σ' H' s'->RelV v u->((∀ b,CellOf cl b->H' b=none)->Q v (rel (CellOf cl) H H'))->CE outer P w H s Q u s' :=
    λ{σ' H' v u} J rv q=>⟨v,rel (CellOf cl) H H',J.os,J.bare,Zof hC e0.hok J.base hfs,Zmv hC e0.hok J.base hfs J.hok,rv,q λb hb=>ZlE hC e0.hok J.base hfs hb⟩
   cases fl with
   | ret u =>
    obtain⟨v,σ',H',J,rv,q⟩:=hs
    exact fin J rv q
   | next =>
    obtain⟨σ',H',J,q⟩:=hs
    exact fin (v:=V.non) (u:=Value.none) J rfl q
   | brk =>
    obtain⟨_,_,_,q⟩:=hs
    exact False.elim q
   | cont =>
    obtain⟨_,_,_,q⟩:=hs
    exact False.elim q
  ·exact False.elim hs
end
end L2
end
section
namespace L2
open PySem PySem.Spec PyProof.Rows
def MadeAt(X:Cx)(name qual:Str)(params:Arguments)(body:List Stmt)(scope:Scope)(P:Addr)(v:V)(G:Hp):Prop :=
 ∃ (f c:Addr) (co:Obj) (doc pm ctv:Value) (cl:List (Str×Addr)),v=.ref f/\Clos X scope cl/\CodeO co qual/\G c=some (.frz co (.own P))/\G f=some (.frz (PySem.W.fnMade name qual params body scope cl doc pm c ctv) (.own f))
theorem MadeAt.same{X:Cx}{name qual:Str}{params:Arguments}{body:List Stmt}{scope:Scope}{P:Addr}{v:V}{G G':Hp}(m:Same G G')(h:MadeAt X name qual params body scope P v G):MadeAt X name qual params body scope P v G':=by
 obtain⟨f,c,co,doc,pm,ctv,cl,e,h1,h2,h3,h4⟩:=h
 exact⟨f,c,co,doc,pm,ctv,cl,e,h1,h2,m _ _ h3,m _ _ h4⟩
end L2
namespace VL
open PySem PySem.Spec PyProof.Rows L2
variable [Tabs]
section
variable {K:W.Frag}{E:FK}{X:Exc->Sl->Prop}{ρ:Sl}{Q:TV->Prop}{nx bk ct:Sl->Prop}{rt:TV->Prop}
theorem Zdi{Y:Cx}{name qual:Str}{params:Arguments}{body:List Stmt}{scope:Scope}{P:Addr}{q:Nat->Nat->Str}{pos:Pos}{i:Nat}(hP:(P,q)∈Tabs.ts)(hq:q pos.line pos.col=qual)(hi:i<ρ.length)
  (h:nx (ρ.set i (some (.obj (MadeAt Y name qual params body scope P))))):Sv K E X (tDef Y name qual params body scope P pos i) ρ ⟨nx,rt,bk,ct⟩:=λH0 σ ts as H D st s x f=>by
 refine⟨q,s.same _ _ (x.t _ hP),hq,λcl fa H' C m=>f.nx _ h _ _ ?_⟩
 have s':=s.ext m.same
 have mm:MadeAt Y name qual params body scope P (.ref fa) H':=by
  obtain⟨c,co,doc,pm,ctv,h1,h2,h3,h4,rfl⟩:=m
  exact⟨fa,c,co,doc,pm,ctv,cl,rfl,C,h1,by rw[Zah h3,Zak],Zak⟩
 refine SR.store (v:=.ref fa) (a:=.obj (MadeAt Y name qual params body scope P)) ?_ hi
 obtain⟨⟨p,q,h1,h2,h3,h4⟩,e⟩:=s'
 refine⟨⟨p,q,h1,.cons (.av (.obj (p:=λ_=>0) ?_ (λG1 G2 mm hh=>hh.same mm) λ_=>rfl)) h2 (λb=>by simp),h3,h4⟩,e⟩
 obtain⟨f',c,co,doc,pm,ctv,cl',e1,k1,k2,k3,k4⟩:=mm
 have nm:∀ {b:Addr} {ob:Obj} {y:HO},H' b=some (.frz ob y)->VL.hid H' p q b=some (.frz ob y):=λ{b ob y} z=>ZkN (SR.lsts h1 h2) z λz=>(show False from z)
 exact⟨f',c,co,doc,pm,ctv,cl',e1,k1,k2,nm k3,nm k4⟩
theorem Zmz{P:Program}{w:World}{mg:Str->Option Value}{base:Heap}{CX:CXT}{k i:Nat}{A:TA}{E':XK}{Pre:List AV->Prop}{Post:List AV->AV->Prop}(hi:ρ[i]?=some (some (.obj (CloOk P w K mg base CX k (spR K Pre Post NP)))))
  (h:Ea K E X A ρ (ClR Pre Post NP [] Q λ_=>True)):Ev K E X (tCallV P w K mg base CX k i E' A) ρ Q:=λH0 σ ts as H QV s x kk=>by
 obtain⟨v,e1,e2,_⟩:=s.atO hi
 refine⟨v,_,e1,e2,h H0 σ ts as H _ s x λbs ⟨cs,sh,pre,q,_⟩ vs H' s' hl=>?_⟩
 obtain⟨v',e1',e2',_⟩:=s'.atO hi
 rw[e1] at e1'
 cases e1'
 obtain⟨rp,s2⟩:=SR.lent sh hl s'
 exact⟨e2',x.t.same s2.same,cs,by simpa using rp,by simpa using pre,λc hc v H2 r=>let ⟨a,g,z⟩:=q c (by simpa using hc);kk a z v H2 (s2.gotG r g),λe z=>z.elim⟩
end
def setV:Nat->List AV->Sl->Sl
 | _,[],ρ=>ρ
 | j,c::cs,ρ=>setV (j+1) cs (ρ.set j (some c))
section
variable {K:W.Frag}{H G:Hp}
theorem RSl.set0:∀ {σ:L2.St} {ρ:Sl} {p:Fp} {j:Nat} {v:V} {a:AV},RSl K G H σ ρ p->(∀ b,p b=0)->RA K G H v a Z0->j<ρ.length->RSl K G H (σ.set j (some v)) (ρ.set j (some a)) Z0
 | _,_,_,_,_,_,.nil _,_,_,hj=>by simp at hj
 | _,_,_,0,_,_,.no rs,z,ra,_=>.so ra rs λb=>by simp[Z0,z b]
 | _,_,_,j+1,_,_,.no rs,z,ra,hj=>.no (RSl.set0 rs z ra (by simpa using hj))
 | _,_,_,0,_,_,.so (q:=q) r rs e,z,ra,_=>.so ra rs λb=>by have:=e b;have:=z b;simp only[Z0];omega
 | _,_,_,j+1,_,_,.so (p:=p) (q:=q) r rs e,z,ra,hj=>.so r (RSl.set0 rs (λb=>by have:=e b;have:=z b;omega) ra (by simpa using hj)) λb=>by have:=e b;have:=z b;simp only[Z0];omega
theorem RSl.setAll:∀ {vs:List V} {cs:List AV} {j:Nat} {σ:L2.St} {ρ:Sl},RAs K G H vs cs Z0->j+vs.length<=ρ.length->RSl K G H σ ρ Z0->RSl K G H (L2.setAll j vs σ) (setV j cs ρ) Z0:=by
 intro vs
 induction vs with
 | nil =>
  intro cs j σ ρ r _ s
  cases r
  exact s
 | cons v vs ih =>
  intro cs j σ ρ r hl s
  cases r with
  | @cons _ c _ cs' p1 q1 _ r rs e =>
   have z1:p1=Z0:=by funext b;have:=e b;simp only[Z0] at this ⊢;omega
   have z2:q1=Z0:=by funext b;have:=e b;simp only[Z0] at this ⊢;omega
   subst z1 z2
   simp only[List.length_cons] at hl
   exact ih rs (by rw[List.length_set];omega) (RSl.set0 s (λ_=>rfl) r (by omega))
theorem SR.startF{vs:List V}{cs:List AV}{σ:L2.St}{ρ:Sl}(r:RAs K H H vs cs Z0)(hl:vs.length<=ρ.length)(s:RSl K H H σ ρ Z0):SR K H (L2.setAll 0 vs σ) (setV 0 cs ρ) [] [] H:=by
 have hid0:VL.hid H (λ_=>0) (λ_=>0)=H:=by funext b;simp[VL.hid]
 refine⟨⟨Z0,λ_=>0,?_,.nil λ_=>rfl,λ_=>by simp[Z0],λb z=>by simp[Z0] at z⟩,.refl H⟩
 show RSl K (VL.hid H (λ_=>0) (λ_=>0)) H _ _ _
 rw[hid0]
 exact RSl.setAll r (by omega) s
end
mutual
def AV.plain:AV->Bool
 | .d _=>true
 | .own xs=>AV.plains xs
 | .tup xs=>AV.plains xs
 | .dic _=>true
 | .obj _=>false
def AV.plains:List AV->Bool
 | []=>true
 | x::xs=>x.plain && AV.plains xs
end
section
variable {K:W.Frag}{G G' H H':Hp}
theorem DicAt.low{o:HO}{kvs:List (PyData×PyData)}(h:DicAt K G o kvs)(m:Low G G'):DicAt K G' o kvs:=by
 rcases h with⟨ks,ds,e,r,z⟩|⟨ks,ds,e,r,z⟩|⟨ks,ds,n,e,r,z⟩
 ·exact .inl ⟨ks,ds,e,Reps.low m r,z⟩
 ·exact .inr (.inl ⟨ks,ds,e,Reps.low m r,z⟩)
 ·exact .inr (.inr ⟨ks,ds,n,e,Reps.low m r,z⟩)
theorem RA.lowB(hG:Low G G'):(∀ {v:V} {a:AV} {p:Fp},RA K G H v a p->a.plain=true->(∀ b o,0<p b->H b=some o->H' b=some o)->RA K G' H' v a p)/\∀ {vs:List V} {xs:List AV} {p:Fp},RAs K G H vs xs p->AV.plains xs=true->(∀ b o,0<p b->H b=some o->H' b=some o)->RAs K G' H' vs xs p :=
 RA.ind (M:=λv a p=>a.plain=true->(∀ b o,0<p b->H b=some o->H' b=some o)->RA K G' H' v a p) (N:=λvs xs p=>AV.plains xs=true->(∀ b o,0<p b->H b=some o->H' b=some o)->RAs K G' H' vs xs p) (λr e _ _=>.d (Rep.low hG r) e) (λ{a _ _ _ _} h i e hp hH=>.own (hH a _ (by have:=e a;simp at this;omega) h) (i (by simpa [AV.plain] using hp) λb o z=>hH b o (by have:=e b;omega)) e)
  (λh i hp hH=>.tup (hG _ _ h (by intro _ _ z;cases z)) (i (by simpa [AV.plain] using hp) hH)) (λ{a _ _ _} h d e _ hH=>.dic (hH a _ (by have:=e a;simp at this;omega) h) (d.low hG) e) (λ_ _ _ hp=>by simp[AV.plain] at hp) (λe _ _=>.nil e) λi j e hp hH=>by
   simp only[AV.plains,Bool.and_eq_true] at hp
   exact .cons (i hp.1 λb o z=>hH b o (by have:=e b;omega)) (j hp.2 λb o z=>hH b o (by have:=e b;omega)) e
theorem RA.low(hG:Low G G'){v:V}{a:AV}{p:Fp}(hp:a.plain=true)(hH:∀ b o,0<p b->H b=some o->H' b=some o)(h:RA K G H v a p):RA K G' H' v a p:=(RA.lowB hG).1 h hp hH
theorem RAs.low(hG:Low G G'){vs:List V}{xs:List AV}{p:Fp}(hp:AV.plains xs=true)(hH:∀ b o,0<p b->H b=some o->H' b=some o)(h:RAs K G H vs xs p):RAs K G' H' vs xs p:=(RA.lowB hG).2 h hp hH
theorem RA.there{v:V}{a:AV}{p:Fp}(h:RA K G H v a p):∀ b,0<p b->∃ o,H b=some o/\Mu o:=RA.lstB.1 h
theorem Rs.rel{C:Addr->Prop}{v:V}{c:AV}(hC:∀ b,C b->∃ o,H b=some (.frz o (.own b)))(hno:∀ b,C b->H' b=none)(r:Rs K (unl C H) H' v c):Rs K H (rel C H H') v c:=by
 obtain⟨sm,p,h1,h2,ra⟩:=r
 have up:∀ b o,H' b=some o->L2.rel C H H' b=some o:=λb o e=>by
  rw[ZdE λz=>by rw[hno b z] at e;cases e];exact e
 refine⟨λb o e=>?_,p,h1,λb z=>?_,ra.mono (λb o e=>?_) λb o _ e=>up b o e⟩
 ·by_cases hc:C b
  ·rw[Zhz hc];exact e
  ·rw[ZdE hc];exact sm b o (by rw[ZaX hc];exact e)
 ·obtain⟨o,e,_⟩:=ra.there b z
  have hc:¬ C b:=λy=>by rw[hno b y] at e;cases e
  have:=h2 b z
  rw[ZaX hc] at this
  exact this
 ·unfold VL.hid at e ⊢
  split at e
  ·rename_i y;rw[if_pos y];exact up b o e
  ·cases e
theorem Rs.unl{C:Addr->Prop}{H1:Hp}{v:V}{c:AV}(hp:c.plain=true)(hC:∀ b,C b->H1 b=none/\∃ o v,H b=some (.frz o (.own b))/\o.data=.cell v)(m:Same H1 H)(r:Rs K H H' v c):Rs K H1 (unl C H') v c:=by
 obtain⟨sm,p,h1,h2,ra⟩:=r
 have at':∀ b,C b->∃ o,H' b=some (.frz o (.own b)):=λb z=>by
  obtain⟨_,o,_,e,_⟩:=hC b z
  exact⟨o,sm _ _ e⟩
 have lo:Low H' (L2.unl C H'):=λb o e n=>Zdg at' e λob z=>n ob b z
 refine⟨λb o e=>?_,p,h1,λb z=>?_,RA.low (λb o e n=>?_) hp (λb o z e=>?_) ra⟩
 ·have hc:¬ C b:=λz=>by rw[(hC b z).1] at e;cases e
  rw[ZaX hc]
  exact sm b o (m b o e)
 ·have:=h2 b z
  cases e:H1 b with
  | none=>rfl
  | some o=>rw[m b o e] at this;cases this
 ·unfold VL.hid at e ⊢
  split at e
  ·rename_i y;rw[if_pos y];exact lo b o e n
  ·cases e
 ·obtain⟨o',e',mu⟩:=ra.there b z
  rw[e] at e'
  cases e'
  refine lo b o e λob c z=>?_
  subst z
  exact (show False from mu)
end
section
variable {Y:Cx}{CX:CXT}{k:Nat}{name qual:Str}{params:Arguments}{body:List Stmt}{scope:Scope}{Pt:Addr}{N ps:List Str}{cap:List (Option Nat)}{Pre:List AV->Prop}{Post:List AV->AV->Prop}{H0 H1 H2:Hp}{σ:L2.St}{ρ:Sl}{ts:List V}{as:List TV}{v:V}
theorem Zdj(S:FnScopeF N ps scope)(hcap:capOk Y.N Y.env.scope scope N cap=true)(hnf:∀ y∈Y.env.scope.names,y.2≠.free)(hfn:∀ x,Y.fn x=true)
  (hbind:∀ (cl:List (Str×Addr)) (doc pm ctv:Value) (c:Addr) (s:Shared) (us:List Value),us.length=ps.length->BindsTo s (PySem.W.fnX name qual params body scope cl .none .none doc pm none (.ref c) ctv) ⟨us,[]⟩ (ps.zip us))
  (hlen:∀ cs,Pre cs->cs.length=ps.length) (hdat:∀ cs,Pre cs->AV.plains cs=true)
  (hm:MadeAt Y name qual params body scope Pt v H1) (L:Lent Y σ H1 H2) (s:SR Y.K H0 σ ρ ts as H1)
  (hbody:∀ (cl:List (Str×Addr)) (f c:Addr) (A:Around) (outer:List Env) (s:Shared) (H:Hp) (E:XK),Room k (A.deeper (envF qual scope cl s.heap.objs.size f (.ref c))) ->
   ∃ t,PSs (cxF CX Y.prog Y.w Y.K Y.mg Y.base N qual scope cl f (.ref c) A outer s H E).nox body t/\∀ cs,Pre cs->Sv Y.K (toF E) NE t (setV 0 cs (capV cap ρ)) (finR (Post cs))) :
  CloOk Y.prog Y.w Y.K Y.mg Y.base CX (k+1) (spR Y.K Pre Post NP) v H2:=by
 obtain⟨f,c,co,doc,pm,ctv,cl,rfl,C,hco,hc,hf⟩:=hm
 have own:∀ x d,cl.lookup x=some d->Own Y d:=λx d e=>⟨x,hfn x,C.le x d e⟩
 refine Zoh (σ:=capS cap σ) (G:=H2) S (L.same _ _ hf) (L.same _ _ hc) hco C.has C.inj (λx d e=>(L.own d (own x d e)).2) (λs us hl=>hbind cl doc pm ctv c s us hl) (λvs H Q E h=>Zd6 h hlen) (λh hh=>?_) λA outer s' H vs Q E hr m hsp=>?_
 ·refine⟨by unfold capS;rw[List.length_map,Zch hcap],λi x w h1 h2=>?_⟩
  unfold capS at h2
  rw[List.getElem?_map] at h2
  cases e:cap[i]? with
  | none=>rw[e] at h2;cases h2
  | some o =>
   rw[e] at h2
   cases o with
   | none=>cases h2
   | some j =>
    have h2:(σ[j]?).join=some w:=Option.some.inj h2
    obtain⟨q1,q2,q3,q4⟩:=ZdT hcap h1 e
    have q5:σ[j]?=some (some w):=by
     cases es:σ[j]? with
     | none=>rw[es] at h2;cases h2
     | some w'=>rw[es] at h2;cases w' with
      | none=>cases h2
      | some w''=>have:some w''=some w:=h2;rw[this]
    have q2':Y.env.scope.names.lookup x=some .cell:=by
     rcases q2 with z|z
     ·exact z
     ·exact absurd rfl (hnf _ (PySem.mem_of_lookup z))
    obtain⟨d,hd⟩:=C.has x (PySem.mem_of_lookup q3)
    obtain⟨o,u,r1,r2,r3⟩:=L.cell j x d w q1 (hfn x) q2' (C.le x d hd) q5
    exact⟨q3,q4,d,o,u,hd,hh x d o hd r1,r2,r3⟩
 ·obtain⟨t,h1,h2⟩:=hbody cl f c A outer s' (unl (CellOf cl) H) E hr
  refine⟨t,h1,?_⟩
  obtain⟨tb,cs,rp,pre,q,_⟩:=hsp
  have hC:∀ b,CellOf cl b->∃ o,H b=some (.frz o (.own b)):=λb ⟨x,e⟩=>by
   obtain⟨_,o,_,z,_⟩:=L.own b (own x b e)
   exact⟨o,m _ _ z⟩
  have lo:Low H (unl (CellOf cl) H):=λb o e n=>Zdg hC e λob z=>n ob b z
  have sm:Same H1 (unl (CellOf cl) H):=λb o e=>by
   have hb:¬ CellOf cl b:=λ⟨x,z⟩=>by rw[(L.own b (own x b z)).1] at e;cases e
   rw[ZaX hb]
   exact m _ _ (L.same _ _ e)
  have r1:RAs Y.K (unl (CellOf cl) H) (unl (CellOf cl) H) vs cs Z0:=RAs.low lo (hdat cs pre) (λb o z=>by simp[Z0] at z) rp
  have r2:RSl Y.K (unl (CellOf cl) H) (unl (CellOf cl) H) (capS cap σ) (capV cap ρ) Z0:=RSl.cap s sm cap
  have hl:vs.length<=(capV cap ρ).length:=by
   unfold capV
   rw[List.length_map,Zch hcap,rp.len,hlen cs pre]
   have:=congrArg List.length S.pre
   rw[List.length_take] at this
   omega
  have tb':TabsIn (unl (CellOf cl) H):=λp hp=>lo _ _ (tb p hp) λ_ _ z=>by cases z
  refine h2 cs pre _ _ [] [] _ _ Stb.nil (SR.startF r1 hl r2) (XOk.ne tb') ⟨λρ z σ' H' s'' hno=>?_,λ_ z=>z.elim,λ_ z=>z.elim,λa ⟨c,r,z⟩ v σ' ρ' H' s'' hno=>?_⟩
  ·exact q _ z _ _ (Rs.rel hC hno (SR.rs (v:=.non) (s''.push λ_=>.non)))
  ·refine q _ z _ _ (Rs.rel hC hno ?_)
   rcases r with rfl|⟨nr,rfl⟩
   ·exact s''.rs
   ·refine⟨s''.same,λ_=>0,λ_=>by simp,λb z=>by simp at z,.d ?_ λ_=>rfl⟩
    have hid0:VL.hid H' (λ_=>0) (λ_=>0)=H':=by funext b;simp[VL.hid]
    rw[hid0]
    exact s''.top nr
end
end VL
end
section
namespace VL
open PySem PySem.Spec PyProof.Rows L2
variable [Tabs]
inductive ShL(K:W.Frag)(Y:Cx)(ρ:Sl):TV->AV->Prop
 | d {b:TV} {x:PyData}:NR b->b.data=x->ShL K Y ρ b (.d x)
 | o {φ ψ:V->Hp->Prop}:(∀ v G1 G2,Same G1 G2->ψ v G1->ψ v G2)->(∀ (H0:Hp) (σ:L2.St) (ts:List V) (as:List TV) (H1 H2:Hp) (v:V),SR K H0 σ ρ ts as H1->Lent Y σ H1 H2->φ v H1->ψ v H2)->ShL K Y ρ (.av (.obj φ)) (.obj ψ)
inductive ShLs(K:W.Frag)(Y:Cx)(ρ:Sl):List TV->List AV->Prop
 | nil:ShLs K Y ρ [] []
 | cons {b:TV} {c:AV} {bs:List TV} {cs:List AV}:ShL K Y ρ b c->ShLs K Y ρ bs cs->ShLs K Y ρ (b::bs) (c::cs)
section
variable {K:W.Frag}{Y:Cx}{H0 H1 H2:Hp}{σ:L2.St}{ρ:Sl}{ts:List V}{as:List TV}
theorem SR.lentL(L:Lent Y σ H1 H2):∀ {vs:List V} {bs:List TV} {cs:List AV},ShLs K Y ρ bs cs->vs.length=bs.length->SR K H0 σ ρ (vs++ts) (bs++as) H1->RAs K H2 H2 vs cs Z0/\SR K H0 σ ρ ts as H1
 | [],_,_,.nil,_,s=>⟨.nil λ_=>rfl,s⟩
 | [],_,_,.cons _ _,e,_=>by simp at e
 | v::vs,_,_,.nil,e,_=>by simp at e
 | v::vs,b::bs,c::cs,.cons h t,e,s=>by
  have s':SR K H0 σ ρ (v::(vs++ts)) (b::(bs++as)) H1:=s
  obtain⟨r,s2⟩:=SR.lentL L t (by simpa using e) s'.pop
  refine⟨.cons (p:=Z0) (q:=Z0) ?_ r λ_=>rfl,s2⟩
  cases h with
  | d nr ed=>exact .d (ed▸(s'.top nr).same L.same) λ_=>rfl
  | o mono up =>
   refine .obj (up H0 σ ts as H1 H2 v s2 L ?_) (mono v) λ_=>rfl
   obtain⟨⟨p,q,h1,h2,h3,h4⟩,sm⟩:=s'
   cases h2 with
   | cons r rs e=>cases r with
    | av r=>cases r with
     | obj h m z=>exact m _ _ Zbg h
end
section
variable {P:Program}{w:World}{K:W.Frag}{mg:Str->Option Value}{base:Heap}{CX:CXT}{x qual:Str}{st:Stmt}{N ps:List Str}{k:Nat}
def Zd9(K:W.Frag):Sp:=λvs H Q _=>TabsIn H/\∃ (a:Addr) (ns:List Int),vs=[.ref a]/\SqL K H a (ns.map V.int)/\ns.length<=63/\(∀ x∈ns,Builtin.Int.intBits x<=2 ^ 20)/\∀ H',Same H H'->Q (.bl true) H'
theorem ZkU{f:Addr}{fd:FuncData}{dV:Value}(F:FunD K x qual st dV f fd)(Sc:FnScope N ps (defScope st))(hps:ps.length=1)
  (hbody:∀ (cdv:Value) (A:Around) (outer:List Env) (s:Shared) (H:Hp) (E:XK),Room k (A.deeper (envOfC qual (defScope st) s.heap.objs.size f cdv)) ->
   ∃ t,PSs (cxOf CX P w K mg base N qual (defScope st) f cdv A outer s H E).nox (defBody st) t/\∀ ns:List Int,ns.length<=63->(∀ x∈ns,Builtin.Int.intBits x<=2 ^ 20)->Sv K (toF E) NE t (ini N [dI ns]) (fin (.d (.bool true)))) :
  FnOk P w K mg base CX (k+1) f fd ps (Zd9 K):=by
 refine F.ok (k:=k) Sc (λvs H Q E h=>?_) λcdv A outer s H vs Q E hr h=>?_
 ·obtain⟨_,a,ns,rfl,_⟩:=h
  exact hps.symm
 ·obtain⟨tb,a,ns,rfl,hS,hl,hb,q⟩:=h
  obtain⟨t,h1,h2⟩:=hbody cdv A outer s H E hr
  refine⟨t,h1,Zht (E:=E) (S:=λds c=>∃ ns:List Int,ds=[dI ns]/\(ns.length<=63/\∀ x∈ns,Builtin.Int.intBits x<=2 ^ 20)/\c=.d (.bool true)) ⟨tb,[dI ns],.cons (.ints hS) .nil,.inl ⟨_,⟨ns,rfl,⟨hl,hb⟩,rfl⟩,λv H' r=>?_⟩⟩ λds c hc=>?_⟩
  ·obtain⟨sm,p,_,_,ra⟩:=r
   cases ra with
   | d rp _=>rw[Rep.bl_inv rp];exact q _ sm
  ·obtain⟨ns,rfl,⟨hl,hb⟩,rfl⟩:=hc
   exact h2 ns hl hb
end
end VL
namespace L2
open PySem PySem.Spec PySem.Calls PyProof.Rows PySem.W
def H00(ts:List (Addr×(Nat->Nat->Str)))(sc:Option (Addr×HO)):Hp:=λb=>match ts.lookup b with
 | some q=>some (.tbq q)
 | none=>match sc with
  | some (a,o)=>if b=a then some o else none
  | none=>none
theorem Zjj{ts:List (Addr×(Nat->Nat->Str))}(nd:(ts.map Prod.fst).Nodup){p:Addr×(Nat->Nat->Str)}(h:p∈ts):ts.lookup p.1=some p.2:=by
 induction ts with
 | nil=>cases h
 | cons q r ih =>
  rw[List.map_cons,List.nodup_cons] at nd
  rw[show (q::r)=((q.1,q.2)::r) from rfl,List.lookup_cons]
  rcases List.mem_cons.mp h with e|h
  ·subst e
   rw[beq_self_eq_true]
  ·have hne:p.1≠q.1:=λz=>nd.1 (z▸List.mem_map_of_mem h)
   rw[beq_false_of_ne hne]
   exact ih nd.2 h
theorem ZbW{ts:List (Addr×(Nat->Nat->Str))}{b:Addr}{q:Nat->Nat->Str}(h:ts.lookup b=some q):(b,q)∈ts:=by
 induction ts with
 | nil=>cases h
 | cons p r ih =>
  rw[show (p::r)=((p.1,p.2)::r) from rfl,List.lookup_cons] at h
  cases e:b == p.1 with
  | true =>
   rw[e] at h
   cases h
   rw[beq_iff_eq.mp e]
   exact .head _
  | false=>rw[e] at h;exact .tail _ (ih h)
theorem Zjk{P:Program}{w:World}{K:W.Frag}{mg mb:Str->Option Value}{CX:CXT}{k:Nat}{fa a:Addr}{fd:FuncData}{x:Str}{sp:Sp}{s₁:Shared}{vs:List Value}{ns:List Int}{ts:List (Addr×(Nat->Nat->Str))}
  (nd:(ts.map Prod.fst).Nodup) (KX:K.In s₁.heap) (hns:s₁.heap.Ns mainGlobals mg) (hb:s₁.heap.Ns builtinsNs mb) (hbb:∀ x:Str,x ≠ "__name__" -> mb x=bootBuiltins x) (hlim:s₁.heap.NoLimit) (hg:s₁.gens=#[])
  (ha:s₁.heap.get? a=some { cls:=.type "list",data:=.seq vs.toArray }) (hi:IntsAre vs ns) (hl:ns.length<=sizeLine) (hr:Room k callerA)
  (hts:∀ p∈ts,s₁.heap.get? p.1=some (tabObj #[])/\K.lookup p.1=none/\isCodeTable s₁.heap p.1) (hbm:s₁.heap.BuiltinsAt mg mainGlobals)
  (F:∀ base:Heap,K.In base->base.Ns mainGlobals mg->base.BuiltinsAt mg mainGlobals->FnOk P w K mg base CX k fa fd [x] sp) (hbind:∀ (s:Shared) (u:Value),BindsTo s fd ⟨[u],[]⟩ [(x,u)])
  (hsp:∀ H:Hp,(∀ p∈ts,H p.1=some (.tbq p.2))->SqL K H a (ns.map V.int)->sp [.ref a] H (λv H'=>v=.bl true/\Same H H') λ_ _ _=>False)
  (hCX:∀ H e s',CX [] H s₁ (λ_ _ _=>False) e s'->False) :
  codeAny (model P w) callerA (.call (.ref fa) ⟨[.ref a],[]⟩) (λr s'=>r=.ok (.ret (.bool true))/\OldK s₁.heap s'.heap/\s'.os=s₁.os/\AllBare s'.gens) s₁:=by
 have rv:=ZfZ hi
 have lenV:=hi.length
 have core:∀ H:Hp,(∀ p∈ts,H p.1=some (.tbq p.2))->SqL K H a (ns.map V.int)->HOk P w H s₁.heap->(∀ b o,H b=some o->(∃ p∈ts,b=p.1)\/(b=a/\∃ ob u,o=.frz ob u))->(∀ b o,H b=some o->K.lookup b=none) ->
   codeAny (model P w) callerA (.call (.ref fa) ⟨[.ref a],[]⟩) (λr s'=>r=.ok (.ret (.bool true))/\OldK s₁.heap s'.heap/\s'.os=s₁.os/\AllBare s'.gens) s₁:=by
  intro H hT hS hok hA hK
  have noA:∀ {b:Addr} {o:Obj},s₁.heap.get? b=some o->(∀ vs n,o.data≠.seq vs n)->(∀ vs,o.data≠.fields vs)->H b=none:=λ{b o} e n1 n2=>by
   cases q:H b with
   | none=>rfl
   | some u =>
    rcases hA b u q with⟨p,hp,rfl⟩|⟨rfl,_⟩
    ·rw[(hts p hp).1] at e
     cases e
     exact absurd rfl (n2 _)
    ·rw[ha] at e
     cases e
     exact absurd rfl (n1 _ _)
  have nsK:∀ {b:Addr} {m:Str->Option Value},s₁.heap.Ns b m->(hidT s₁.heap H).Ns b m:=λ{b m} ⟨o,es,ep,e,d,r⟩ =>
   ⟨o,es,ep,Ze6 e (noA e (λ_ _ z=>by rw[d] at z;cases z) λ_ z=>by rw[d] at z;cases z),d,r⟩
  have hKb:K.In (hidT s₁.heap H):=λb o e=>Ze6 (KX b o e) (by
   cases q:H b with
   | none=>rfl
   | some u=>rw[hK b u q] at e;cases e)
  have hM:Mod K mg (hidT s₁.heap H):=⟨hKb,nsK hns,⟨mb,nsK hb,hbb⟩,let ⟨mc,h1,h2⟩:=hlim;⟨mc,nsK h1,h2⟩⟩
  have hB:(hidT s₁.heap H).BuiltinsAt mg mainGlobals:=by
   obtain⟨bm,o,b1,b2,b3,b4,b5,b6,b7,b8⟩:=hbm
   exact⟨bm,o,b1,b2,b3,b4,Ze6 b5 (noA b5 (λ_ _ z=>by rw[b8] at z;cases z) λ_ z=>by rw[b8] at z;cases z),b6,b7,b8⟩
  have e0:Env0 P w K mg (hidT s₁.heap H) callerA [] s₁ H:=⟨rfl,hM,λb o e=>ZlS e,Nat.le_of_eq (ZiF _ _),trivial,λb hb=>absurd (show b∈([]:List Addr) from hb) (by simp),hok,.of_eq hg⟩
  refine codeAny_mono ((F _ hKb (nsK hns) hB).run callerA [] s₁ H ⟨[.ref a],[]⟩ [.ref a] [.ref a] _ _ hr e0 (hbind s₁ (.ref a)) (.cons rfl .nil) (hsp H hT hS)) λr s' h=>?_
  cases r with
  | error e=>exact (hCX H e s' h).elim
  | ok fl =>
   cases fl with
   | next=>exact False.elim h
   | brk=>exact False.elim h
   | cont=>exact False.elim h
   | ret u =>
    obtain⟨v,H',os,bare,un,hok',r',q',sm⟩:=h
    subst q'
    obtain rfl:u=Value.bool true:=r'
    refine⟨rfl,⟨λb o e=>?_,λb o e=>un.there b o e (by simp)⟩,os,bare⟩
    cases q:H b with
    | none=>exact .inl (un.keep b o e q (by intro z;exact absurd (show b∈([]:List Addr) from z) (by simp)) (by simp))
    | some u =>
     rcases hA b u q with⟨p,hp,rfl⟩|⟨rfl,ob,y,rfl⟩
     ·obtain⟨e1,_,e3⟩:=hts p hp
      rw[e1] at e
      cases e
      obtain⟨ps,e4,_⟩:=hok' p.1 _ (sm _ _ (hT p hp))
      exact .inr (.inl ⟨e3,rfl,#[],ps,rfl,by rw[Array.empty_append];exact e4⟩)
     ·have e1:=(hok b _ q).1
      have e2:=(hok' b _ (sm _ _ q)).1
      rw[e] at e1
      cases e1
      exact .inl e2
 have naT:∀ p∈ts,p.1≠a:=λp hp z=>by
  have:=(hts p hp).1
  rw[z,ha] at this
  cases this
 have lka:ts.lookup a=none:=by
  cases e:ts.lookup a with
  | none=>rfl
  | some q=>exact absurd rfl (naT _ (ZbW e))
 have tbl:∀ {sc:Option (Addr×HO)} {b:Addr} {q:Nat->Nat->Str},ts.lookup b=some q->ObjOk P w (H00 ts sc) s₁.heap b (.tbq q):=λ{sc b q} e =>
  ⟨#[],(hts _ (ZbW e)).1,trivial,λpos cv z=>by simp[codeAmong] at z⟩
 have hT:∀ sc,∀ p∈ts,H00 ts sc p.1=some (.tbq p.2):=λsc p hp=>by unfold H00;rw[Zjj nd hp]
 cases hk:K.lookup a with
 | some o =>
  have e:=KX a o hk
  rw[ha] at e
  cases e
  refine core (H00 ts none) (hT none) (.inr ⟨_,vs.toArray,_,hk,rfl,rfl,rfl,by rw[List.size_toArray,lenV];exact hl,by simpa using rv⟩) (λb u z=>?_) (λb u z=>?_) λb u z=>?_
  ·unfold H00 at z
   cases e:ts.lookup b with
   | none=>rw[e] at z;cases z
   | some q=>rw[e] at z;cases z;exact tbl e
  ·unfold H00 at z
   cases e:ts.lookup b with
   | none=>rw[e] at z;cases z
   | some q=>exact .inl ⟨_,ZbW e,rfl⟩
  ·unfold H00 at z
   cases e:ts.lookup b with
   | none=>rw[e] at z;cases z
   | some q=>exact (hts _ (ZbW e)).2.1
 | none =>
  have hsa:H00 ts (some (a,.frz { cls:=.type "list",data:=.seq vs.toArray } (.lst (ns.map V.int)))) a=some (.frz { cls:=.type "list",data:=.seq vs.toArray } (.lst (ns.map V.int))):=by
   unfold H00;rw[lka];exact if_pos rfl
  refine core (H00 ts (some (a,.frz { cls:=.type "list",data:=.seq vs.toArray } (.lst (ns.map V.int))))) (hT _) (.inl (.inr ⟨_,hsa⟩)) (λb u z=>?_) (λb u z=>?_) λb u z=>?_
  ·by_cases hb:b=a
   ·subst hb
    rw[hsa] at z
    cases z
    exact⟨ha,by rw[List.length_map];exact hl,vs,_,rv,ha⟩
   ·unfold H00 at z
    cases e:ts.lookup b with
    | none=>rw[e] at z;have z':=(if_neg hb).symm.trans z;cases z'
    | some q=>rw[e] at z;cases z;exact tbl e
  ·by_cases hb:b=a
   ·subst hb
    rw[hsa] at z
    cases z
    exact .inr ⟨rfl,_,_,rfl⟩
   ·unfold H00 at z
    cases e:ts.lookup b with
    | none=>rw[e] at z;have z':=(if_neg hb).symm.trans z;cases z'
    | some q=>exact .inl ⟨_,ZbW e,rfl⟩
  ·by_cases hb:b=a
   ·rw[hb];exact hk
   ·unfold H00 at z
    cases e:ts.lookup b with
    | none=>rw[e] at z;have z':=(if_neg hb).symm.trans z;cases z'
    | some q=>exact (hts _ (ZbW e)).2.1
theorem ZkV{l:PySem.W.OpenLaw}{n k:Nat}{q:Program}{loose:List Str}{XP:(Str->Option Value)->Heap->Prop}{YP:World->Heap->Prop}{d:DefRec}{K:Params->W.Frag}{CX:World->CXT}{sp:World->Sp}{x:Str}{ts:List (Addr×(Nat->Nat->Str))}
  (nd:(ts.map Prod.fst).Nodup) (hn:l.most=some n) (hn2:n<=sizeLine) (hdf:d.params.defaults=[]) (hr:Room k callerA)
  (hY:∀ (w:World) (h:Heap),YP w h->(K w.params).In h) (hYt:∀ (w:World) (h:Heap),YP w h->∀ p∈ts,h.get? p.1=some (tabObj #[])) (hK:∀ (w:World) (p:Addr×(Nat->Nat->Str)),p∈ts->(K w.params).lookup p.1=none/\∃ c,codeHdIn (K w.params) c p.1=true)
  (F:∀ (w:World) (mg:Str->Option Value) (fa:Addr) (h:Heap),(K w.params).In h->h.Ns mainGlobals mg->mg d.name=some (.ref fa) ->
   ∃ fd:FuncData,(∀ (s:Shared) (u:Value),BindsTo s fd ⟨[u],[]⟩ [(x,u)]) /\
    ∀ base:Heap,(K w.params).In base->base.Ns mainGlobals mg->base.BuiltinsAt mg mainGlobals->FnOk l.prog w (K w.params) mg base (CX w) k fa fd [x] (sp w))
  (hsp:∀ (w:World) (H:Hp) (a:Addr) (ns:List Int),ns.length<=n->(∀ x∈ns,Builtin.Int.intBits x<=2 ^ 20)->(∀ p∈ts,H p.1=some (.tbq p.2))->SqL (K w.params) H a (ns.map V.int)->sp w [.ref a] H (λv H'=>v=.bl true/\Same H H') λ_ _ _=>False)
  (hCX:∀ (w:World) (H:Hp) (s:Shared) (e:Value) (s':Shared),CX w [] H s (λ_ _ _=>False) e s'->False) :
  PySem.W.WalkO q loose XP YP l.row.toRowW d [] (λf vs=>PySem.call f vs):=by
 refine Zga hn hdf λw s₀ s₁ mg mb fa o pm cd doc a vs ns G Y ho hd hcd hmg hobj hints hlen hg hbits=>?_
 have KX:=hY w _ Y
 obtain⟨fd,hb,hF⟩:=F w mg fa _ KX G.T.g hmg
 have hbm:s₁.heap.BuiltinsAt mg mainGlobals:=by
  obtain⟨bm,ob,b1,b2,b3,b4,b5,b6⟩:=G.T.bmain
  have hne:bm≠mainGlobals:=λz=>by
   obtain⟨o,es,ep,e,d,_⟩:=G.T.g
   rw[z,e] at b3
   cases b3
   rw[d] at b6
   cases b6
  exact⟨bm,ob,b1,b2,hne,hne,b3,b4,b5,b6⟩
 refine Zjk nd KX G.T.g G.T.b G.T.builtins G.T.nolimit hg hobj hints (Nat.le_trans hlen hn2) hr (λp hp=>?_) hbm hF hb (λH hT hS=>hsp w H a ns hlen hbits hT hS) λH e s'=>hCX w H s₁ e s'
 obtain⟨h1,c,h2⟩:=hK w p hp
 have h3:=hYt w _ Y p hp
 exact⟨h3,h1,((codeHd_of_K KX h2).tab h3).isCodeTable⟩
end L2
end
section
namespace L2
open PySem PySem.Spec PyProof.Rows
section
variable {X:Cx}{pins:List (Addr×Obj)}{σ:St}{H:Hp}{s:Shared}{a:Addr}{y v:V}{u r:Value}{A:Around}{E:Value->Shared->Prop}
theorem Zjl{H':Hp}{Q:Unit->Shared->Prop}(hu:A.units+1<cLine)(I:Inv X pins σ H s)(g:DPut H a y v H')(ry:RelV y u)(rv:RelV v r)(h:∀ s',Inv X pins σ H' s'->Q () s') :
  wpAny (model X.prog X.w) A (dictSet a u r) Q E s:=by
 rcases g with⟨kvs,k,e,ey,l,eH⟩|⟨kvs,k,b,e,ey,eb,l,eH⟩
 ·subst ey eH
  obtain⟨z,hd,vs,rel,dd⟩:=Znp I.hok e
  have hz:vs.length<=sizeLine:=by rw[<- rel.length];exact z
  have hl:(putK kvs k v).length<=sizeLine:=by have:=Zbh kvs k v;omega
  refine wpAny_dictSet_pairs (hsz:=hz) (ZgG ry) dd λh' dd' hs=>h _ ?_
  have he:∃ q,h'.get? a=some q:=let ⟨q,_,_,hq,_⟩:=dd';⟨q,hq⟩
  exact Zbr I (by rw[e];exact True.intro) hs he (Zlx hl hd (rel.put k rv) dd')
 ·subst ey eH
  cases (show u=Value.ref b from ry)
  obtain⟨z,hd,xs,rel,dd⟩:=Znq I.hok e
  have hz:xs.length<=sizeLine:=by rw[<- Paired.length rel];exact z
  have hl:(putK kvs k v).length<=sizeLine:=by have:=Zbh kvs k v;omega
  refine wpAny_dictSet_heap (hsz:=hz) (show A.units<cLine by omega) (Zd3 I.hok eb) dd λh' dd' hs=>h _ ?_
  obtain⟨q,es,ep,hq,h2,h3,h4,_,h5⟩:=dd'
  refine Zbr I (by rw[e];exact True.intro) hs ⟨q,hq⟩ ⟨hl,hd,_,(rel.put k eb rv).keeps λc ys ec=>?_,q,es,ep,hq,h2,h3,h4,h5⟩
  rw[Zah (ZfP ec e (λz=>nomatch z))]
  exact ec
theorem Zjm{kvs:List ((Key×List Key)×V)}{k:Key×List Key}{b:Addr}{Q:Unit->Shared->Prop}(hu:A.units+2<cLine)(I:Inv X pins σ H s)(e:H a=some (.dN kvs))(eb:KeyN H b k)(l:kvs.length<sizeLine)(ry:RelV (.ref b) u)(rv:RelV v r)(h:∀ s',Inv X pins σ (upd H a (.dN (putK kvs k v))) s'->Q () s') :
  wpAny (model X.prog X.w) A (dictSet a u r) Q E s:=by
 cases (show u=Value.ref b from ry)
 obtain⟨z,hd,xs,rel,dd⟩:=Zi1 I.hok (.inl e)
 have hz:xs.length<=sizeLine:=by rw[<- Paired.length rel];exact z
 have hl:(putK kvs k v).length<=sizeLine:=by have:=Zbh kvs k v;omega
 refine wpAny_dictSet_heap (hsz:=hz) (show (pairKind (mixKind X.prog X.w)).room A from ⟨by omega,by show A.units+1<cLine;omega⟩) (Zdx I.hok eb) dd λh' dd' hs=>h _ ?_
 obtain⟨q,es,ep,hq,h2,h3,h4,_,h5⟩:=dd'
 refine Zbr I (by rw[e];exact True.intro) hs ⟨q,hq⟩ ⟨hl,hd,_,(rel.put k eb rv).keeps λc ys ec=>?_,q,es,ep,hq,h2,h3,h4,h5⟩
 rw[Zah (ZfP ec e (λz=>nomatch z))]
 exact ec
theorem ZmA{H':Hp}{Q:Unit->Shared->Prop}(hu:A.units+2<cLine)(I:Inv X pins σ H s)(g:DPut0 H a y v H')(ry:RelV y u)(rv:RelV v r)(h:∀ s',Inv X pins σ H' s'->Q () s') :
  wpAny (model X.prog X.w) A (dictSet a u r) Q E s:=by
 have big:([]:List (Key×V)).length<sizeLine:=by decide
 have big':([]:List (List Key×V)).length<sizeLine:=by decide
 rcases g with g|⟨k,rfl,e,rfl⟩|⟨k,b,rfl,eb,e,rfl⟩|⟨kvs,k,b,e,rfl,eb,l,rfl⟩|⟨k,b,rfl,eb,e,rfl⟩
 ·exact Zjl (by omega) I g ry rv h
 ·have x:=I.hok a _ e
  obtain⟨q,hq⟩:∃ q,s.heap.get? a=some q:=by obtain⟨_,_,_,_,q,_,_,hq,_⟩:=x;exact⟨q,hq⟩
  have J:Inv X pins σ (upd H a (.dK [])) s:=Zbr (t':=s.toks) I (by rw[e];exact True.intro) (Heap.SameBut.refl a s.heap) ⟨q,hq⟩ (ZkC x)
  refine Zjl (by omega) J (DPut.k (k:=k) (v:=v) Zak big) ry rv λs' J'=>h s' ?_
  rw[Zdu] at J'
  exact J'
 ·have x:=I.hok a _ e
  obtain⟨q,hq⟩:∃ q,s.heap.get? a=some q:=by obtain⟨_,_,_,_,q,_,_,hq,_⟩:=x;exact⟨q,hq⟩
  have J:Inv X pins σ (upd H a (.dT [])) s:=Zbr (t':=s.toks) I (by rw[e];exact True.intro) (Heap.SameBut.refl a s.heap) ⟨q,hq⟩ (Znw x)
  refine Zjl (by omega) J (DPut.t (k:=k) (v:=v) Zak (by rw[Zah (ZfP eb e (λz=>nomatch z))];exact eb) big') ry rv λs' J'=>h s' ?_
  rw[Zdu] at J'
  exact J'
 ·exact Zjm hu I e eb l ry rv h
 ·have x:ObjOk X.prog X.w H s.heap a (.dK []):=by
   rcases e with e|e
   ·exact I.hok a _ e
   ·exact ZkC (I.hok a _ e)
  obtain⟨q,hq⟩:∃ q,s.heap.get? a=some q:=by obtain⟨_,_,_,_,q,_,_,hq,_⟩:=x;exact⟨q,hq⟩
  have mu:Mut (H a):=by rcases e with e|e<;>rw[e]<;>exact True.intro
  have J:Inv X pins σ (upd H a (.dN [])) s:=Zbr (t':=s.toks) I mu (Heap.SameBut.refl a s.heap) ⟨q,hq⟩ (Znx x)
  have nt:∀ c ys,H c=some (.tup ys)->upd H a (.dN []) c=some (.tup ys):=λc ys ec=>by
   rw[Zah (by rcases e with e|e<;>exact ZfP ec e (λz=>nomatch z))];exact ec
  refine Zjm hu J Zak (let ⟨c,e1,e2⟩:=eb;⟨c,nt _ _ e1,nt _ _ e2⟩) (by decide) ry rv λs' J'=>h s' ?_
  rw[Zdu] at J'
  exact J'
end
def tDisp1(tk tv:TE):TE:=λσ H Q=>∀ p,H p=none->tk σ (upd H p (.dK [])) λx H1=>tv σ H1 λy H2=>∃ H',DPut0 H2 p x y H'/\Q (.ref p) H'
theorem ZkW{X:Cx}{k v:Expr}{tk tv:TE}{pos:Pos}(hu:X.A.units+64<cLine)(hk:PE X k tk)(hv:PE X v tv):PE X (.Dict [some k] [v] pos) (tDisp1 tk tv):=by
 intro pins s σ H Q I q
 have hn:=I.hok.fresh (Nat.le_refl s.heap.objs.size)
 have I1:=I.laid (a:=s.heap.objs.size) (o:=.dK []) (h':=s.heap.push { cls:=.type "dict",data:=.dict #[] }) (t':=s.toks) (λ_ _ q=>Heap.get?_push_of_some _ q) (Nat.le_refl _) (Zhi s.heap I.big)
 refine wpAny_Dict_any rfl rfl (by simp) (by show 1<=15;decide) ?_
 refine pairTrees_cons_walk (thn (hk pins _ σ _ _ I1 (q _ hn)) λu s1 ⟨x,H1,I2,rx,q1⟩=>thn (hv pins s1 σ H1 _ I2 q1) λw2 s2 ⟨y,H2,I3,ry,H',g,q2⟩=>pairTrees_nil_walk ?_)
 unfold storeAll
 rw[List.forIn_cons]
 refine wpAny_bind (wpAny_bind (ZmA (by omega) I3 g rx ry λs' J=>wpAny_pure ?_))
 show wpAny _ _ (forIn [] PUnit.unit _) _ _ _
 rw[List.forIn_nil]
 exact wpAny_pure ⟨.ref s.heap.objs.size,H',J,rfl,q2⟩
def tAsgD(tk tv:TE)(n:Nat):TS:=tAsg (tDisp1 tk tv) (gName n)
theorem ZmB{X:Cx}{i:Nat}{x:Str}{e:Expr}{tk tv:TE}{pos pos':Pos}(hN:X.N.Nodup)(hi:X.N[i]?=some x)(hx:Loc X.env.scope x)(he:PE X e (tDisp1 tk tv))(hs:swapsWith e (some (.Name x pos')) pos.line X.env=pure false:=by rfl)(hf:X.fn x=true\/X.env.scope.names.lookup x=some .local:=by first|exact .inl rfl|exact .inr rfl|assumption) :
  PS X (.Assign [.Name x pos'] e pos) (tAsgD tk tv i):=Zal hN hi hx he hs hf
end L2
namespace VL
open PySem PySem.Spec PyProof.Rows L2
variable [Tabs]
section
variable {K:W.Frag}{E:FK}{X:Exc->Sl->Prop}{ρ:Sl}
abbrev rgI(n:Nat):List Int:=(List.range n).map λi:Nat=>(i:Int)
theorem SR.putT{H0 H:Hp}{σ:L2.St}{ts:List V}{as:List TV}{α:Type}[DecidableEq α]{f:α->PyData}{c:α}{z:PyData}{v w:V}{l:Addr}{b:TV}(F:KEnc f)(s:SR K H0 σ ρ (v::w::.ref l::ts) (.av (.d z)::b::.av (.dic [])::as) H)(st:Stb as)(eb:b.data=f c)(nb:NR b) :
  ∃ H',DPut0 H l w v H'/\SR K H0 σ ρ (.ref l::ts) (.av (.dic (encD f [(c,z)]))::as) H':=by
 have hx:=s.pop.top nb
 rw[eb] at hx
 obtain⟨⟨p,q,h1,h2,h3,h4⟩,sm⟩:=s
 cases h2 with
 | @cons _ _ _ _ q1 q2 _ r rs eq =>
 cases r with
 | av r =>
 cases r with
 | d rp eqz =>
 cases rs with
 | @cons _ _ _ _ q3 q4 _ r3 rs eq3 =>
 cases rs with
 | @cons _ _ _ _ q5 q6 _ r rs eq2 =>
 cases r with
 | av r =>
 cases r with
 | @dic _ o _ _ hl hd ep =>
  have hd2:DicAt K H o (encD f ([]:List (α×PyData))):=hd.mono Zbg
  obtain⟨o2,p1,p2,p3⟩:=Zjc (v:=v) F hd2 hx (by simp)
  have ql:q5 l=1:=by have:=ep l;simpa using this
  have tot:∀ b,q b=q1 b+(q3 b+(q5 b+q6 b)):=λb=>by have:=eq b;have:=eq3 b;have:=eq2 b;omega
  have m0:Same (VL.hid H p q) (VL.hid (upd H l o2) p q):=ZcP λb u y _=>⟨y,λz=>by subst z;have:=tot b;omega⟩
  have k2:∀ b u,0<p b+q6 b->H b=some u->upd H l o2 b=some u:=λb u y e=>by
   rw[Zah (λz=>by subst z;have:=h3 b;have:=tot b;omega)];exact e
  have s2:Same H0 (upd H l o2):=sm.updF (h4 l (by have:=tot l;omega))
  refine⟨upd H l o2,p1 l hl,SR.of_le (p:=p) (q:=q) (p':=p) (q':=λb=>(if b=l then 1 else 0)+q6 b) s2 h3 h4 (λb=>?_) (h1.mono m0 λb u y e=>k2 b u (by omega) e) (.cons (.av (.dic Zak (p3 _ z (hd.mono m0) (rp.same m0)) λ_=>rfl)) (rs.monoS m0 st λb o y e=>k2 b o (by omega) e) λ_=>rfl)⟩
  have:=ep b
  have:=tot b
  show p b+((if b=l then 1 else 0)+q6 b)<=p b+q b
  omega
theorem ZkX{α:Type}[DecidableEq α]{f:α->PyData}{tk tv:TE}{n:Nat}{nx bk ct:Sl->Prop}{rt:TV->Prop}(F:KEnc f)(hn:n<ρ.length)(h:Ev K E X tk ρ λb=>∃ c,b.data=f c/\NR b/\Ev K E X tv ρ λa=>∃ z,a.sto=some (.d z)/\nx (ρ.set n (some (.dic (encD f [(c,z)]))))) :
  Sv K E X (tAsgD tk tv n) ρ ⟨nx,rt,bk,ct⟩:=λH0 σ ts as H D st s x fi=>by
 intro p hp
 refine h H0 σ _ _ _ _ (s.newD hp) x λb ⟨c,eb,nb,h2⟩ w H1 s1=>h2 H0 σ _ _ H1 _ s1 x λa ⟨z,ea,q⟩ v H2 s2=>?_
 obtain⟨H',g,s3⟩:=SR.putT F (s2.sto ea) st eb nb
 exact⟨H',g,fi.nx _ q _ _ (s3.store hn)⟩
end
end VL
end
section
namespace L2
open PySem PySem.Spec PyProof.Rows
def posOf(s:Stmt):Pos:=match s with
 | .FunctionDef _ _ _ _ _ _ _ _ _ p=>p
 | _=>⟨0,0,0,0⟩
structure TxM(K:W.Frag)(mg:Str->Option Value)(x:Str)(st:Stmt)(ps:List Str)(c0 Pt:Addr):Prop where
 ex:∃ (f:Addr) (oc kV doc pm ct:Value) (od an:Option Addr) (osl:Array (Option Value)),
  K.lookup f=some ⟨oc,od,.func (PySem.W.fnOf x x (defArgs st) (defBody st) (defScope st) .none kV doc pm an (.ref c0) ct),osl⟩/\W.codeIn K (.ref c0) x=true/\mg x=some (.ref f)/\W.keepIn K (.ref f)=true /\
  Binds K (PySem.W.fnOf x x (defArgs st) (defBody st) (defScope st) .none kV doc pm an (.ref c0) ct) ps []
 tab:W.codeHdIn K c0 Pt=true
theorem Zea{K:W.Frag}{h:Heap}{mg:Str->Option Value}{x:Str}{st:Stmt}{ps:List Str}{f c0 Pt:Addr}{oc kV doc pm ct:Value}{od an:Option Addr}{sl:Array (Option Value)}(X:K.In h)(G:h.Ns mainGlobals mg)
  (a:W.nsIn K mainGlobals x=some (some (.ref f))) (l:K.lookup f=some ⟨oc,od,.func (PySem.W.fnOf x x (defArgs st) (defBody st) (defScope st) .none kV doc pm an (.ref c0) ct),sl⟩)
  (c:W.codeIn K (.ref c0) x=true) (k:W.keepIn K (.ref f)=true) (m:W.codeHdIn K c0 Pt=true)
  (hb:∀ (us:List Value),us.length=ps.length->bindArgs (PySem.W.fnOf x x (defArgs st) (defBody st) (defScope st) .none kV doc pm an (.ref c0) ct) ⟨us,[]⟩=pure (ps.zip us)):TxM K mg x st ps c0 Pt :=
 ⟨⟨f,oc,kV,doc,pm,ct,od,an,sl,l,c,PySem.W.mg_of X G a,k,.all hb⟩,m⟩
end L2
namespace VL
open PySem PySem.Spec PyProof.Rows L2
variable [Tabs]
theorem valRM{P:Program}{w:World}{K:W.Frag}{mg:Str->Option Value}{base:Heap}{CX:CXT}{x:Str}{st:Stmt}{N ps:List Str}{k:Nat}{c0 Pt:Addr}{Pre:List AV->Prop}{Post:List AV->AV->Prop}(T:TxM K mg x st ps c0 Pt)(Sc:FnScope N ps (defScope st))(hS:∀ cs,Pre cs->cs.length=ps.length)
  (hbody:∀ (f:Addr) (A:Around) (outer:List Env) (s:Shared) (H:Hp) (E:XK),Room k (A.deeper (envOfC x (defScope st) s.heap.objs.size f (.ref c0))) ->
   ∃ t,PSs (cxOf CX P w K mg base N x (defScope st) f (.ref c0) A outer s H E).nox (defBody st) t/\∀ cs,Pre cs->Sv K (toF E) NE t (inA N cs) (finR (Post cs))) :
  Cal P w K mg base CX (k+1) x ps [] (spR K Pre Post NP):=by
 obtain⟨f,oc,kV,doc,pm,ct,od,an,osl,lk,hcd,hm,hk,hb⟩:=T.ex
 refine⟨f,_,[],ZlX lk hcd Sc (λvs H Q E h=>Zd6 h hS) λA outer s H vs Q E hr h=>?_,hm,hk,hb,.nil⟩
 obtain⟨t,h1,h2⟩:=hbody f A outer s H E hr
 exact⟨t,h1.nox,bodyR h λcs pre=>h2 cs pre⟩
end VL
end
section
namespace L2
open PySem PySem.Spec PyProof.Rows
theorem Zeb{X:Cx}{P:Program}{w:World}{K:W.Frag}{mg:Str->Option Value}{base:Heap}{CX:CXT}{k:Nat}{E:XK}{x:Str}{p pos:Pos}{e:Expr}{es:List Expr}{t:TA}{i:Nat}(hP:X.prog=P)(hw:X.w=w)(hK:X.K=K)(hm:X.mg=mg)(hb:X.base=base)
  (hr:Room k X.A) (hx:Passes CX X E) (ha:PA X (e::es) t) (hN:X.N[i]?=some x:=by rfl) (hv:Vis X.env.scope x:=by first|exact Or.inl rfl|exact Or.inr (Or.inl rfl)|exact Or.inr (Or.inr rfl))
  (hd:(x == ("__debug__" : Str))=false:=by decide) (hcd:(x == ("__classdict__" : Str))=false:=by decide)
  (he:starEach (e::es) X.env=(false,eval e X.env)::starEach es X.env:=by rfl) (hpl:(backTo pos (starEach es X.env)).any (·.1)=false:=by rfl) :
  PE X (.Call (.Name x p) (e::es) [] pos) (tCallV P w K mg base CX k i E t):=by
 subst hP hw hK hm hb
 exact ZkT hr hx ha hN hv hd hcd he hpl
end L2
namespace VL
open PySem PySem.Spec PyProof.Rows L2
variable [Tabs]
def spF{Θ:Type}(K:W.Frag)(Pre:Θ->List AV->Prop)(Post:Θ->List AV->AV->Prop):Sp:=λvs H Q E=>∃ θ,spR K (Pre θ) (Post θ) NP vs H Q E
section
variable {P:Program}{w:World}{K:W.Frag}{mg:Str->Option Value}{base:Heap}{CX:CXT}{x:Str}{st:Stmt}{N ps:List Str}{dvss:List (List V)}{k:Nat}{Θ:Type}{Pre:Θ->List AV->Prop}{Post:Θ->List AV->AV->Prop}
theorem valRF(T:Tx K mg x st ps dvss)(Sc:FnScope N ps (defScope st))(hS:∀ θ cs,Pre θ cs->cs.length=ps.length)
  (hbody:∀ (θ:Θ) (f:Addr) (cdv:Value) (A:Around) (outer:List Env) (s:Shared) (H:Hp) (E:XK),Room k (A.deeper (envOfC x (defScope st) s.heap.objs.size f cdv)) ->
   ∃ t,PSs (cxOf CX P w K mg base N x (defScope st) f cdv A outer s H E).nox (defBody st) t/\∀ cs,Pre θ cs->Sv K (toF E) NE t (inA N cs) (finR (Post θ cs))) :
  ∀ dvs∈dvss,Cal P w K mg base CX (k+1) x ps dvs (spF K Pre Post) :=
 T.cal (k:=k) Sc (λvs H Q E ⟨θ,h⟩=>Zd6 h (hS θ)) λf cdv A outer s H vs Q E hr ⟨θ,h⟩ =>
  let ⟨t,h1,h2⟩:=hbody θ f cdv A outer s H E hr
  ⟨t,h1,bodyR h λcs pre=>h2 cs pre⟩
theorem valRMF{c0 Pt:Addr}(T:TxM K mg x st ps c0 Pt)(Sc:FnScope N ps (defScope st))(hS:∀ θ cs,Pre θ cs->cs.length=ps.length)
  (hbody:∀ (θ:Θ) (f:Addr) (A:Around) (outer:List Env) (s:Shared) (H:Hp) (E:XK),Room k (A.deeper (envOfC x (defScope st) s.heap.objs.size f (.ref c0))) ->
   ∃ t,PSs (cxOf CX P w K mg base N x (defScope st) f (.ref c0) A outer s H E).nox (defBody st) t/\∀ cs,Pre θ cs->Sv K (toF E) NE t (inA N cs) (finR (Post θ cs))) :
  Cal P w K mg base CX (k+1) x ps [] (spF K Pre Post):=by
 obtain⟨f,oc,kV,doc,pm,ct,od,an,osl,lk,hcd,hm,hk,hb⟩:=T.ex
 refine⟨f,_,[],ZlX lk hcd Sc (λvs H Q E ⟨θ,h⟩=>Zd6 h (hS θ)) λA outer s H vs Q E hr h=>?_,hm,hk,hb,.nil⟩
 obtain⟨θ,h⟩:=h
 obtain⟨t,h1,h2⟩:=hbody θ f A outer s H E hr
 exact⟨t,h1.nox,bodyR h λcs pre=>h2 cs pre⟩
end
section
variable {K:W.Frag}{E:FK}{X:Exc->Sl->Prop}{ρ:Sl}{Q:TV->Prop}{Θ:Type}{Pre:Θ->List AV->Prop}{Post:Θ->List AV->AV->Prop}
theorem Zjn{A:TA}{E':XK}(h:Ea K E X A ρ λbs=>∃ θ,ClR (Pre θ) (Post θ) NP [] Q (λ_=>True) bs):Ev K E X (tCall (spF K Pre Post) [] E' A) ρ Q:=λH0 σ ts as H QV s x k =>
 h H0 σ ts as H _ s x λbs ⟨θ,cs,sh,pre,q,_⟩ vs H' s' hl=>by
  obtain⟨rp,s2⟩:=SR.lent sh hl s'
  exact⟨θ,x.t.same s2.same,cs++[],rp.app Zjf,pre,λc hc v H2 r=>let ⟨a,g,z⟩:=q c hc;k a z v H2 (s2.gotG r g),λe z=>z.elim⟩
theorem ZcU{Y:Cx}{A:TA}{E':XK}(h:Ea K E X A ρ λbs=>∃ θ cs,ShLs K Y ρ bs cs/\Pre θ (cs++[])/\∀ c,Post θ (cs++[]) c->c.plain=true/\∃ a,Got c a/\Q a):Ev K E X (tCallL Y (spF K Pre Post) [] E' A) ρ Q:=λH0 σ ts as H QV s x k =>
 h H0 σ ts as H _ s x λbs ⟨θ,cs,sh,pre,q⟩ vs H1 s' hl H2 L=>by
  obtain⟨rp,s2⟩:=SR.lentL L sh hl s'
  refine⟨θ,(x.t.same s2.same).same L.same,cs++[],rp.app Zjf,pre,λc hc v H3 r=>?_,λe z=>z.elim⟩
  obtain⟨pl,a,g,z⟩:=q c hc
  exact k a z v _ (s2.gotG (Rs.unl pl L.own L.same r) g)
theorem ZmC{A:TA}(h:Ea K E X A ρ λbs=>NRs bs/\bs.length<=1000/\Q (.bor (.tuple (bs.map TV.data)))):Ev K E X (tTup A) ρ Q:=λH0 σ ts as H QV s x k =>
 h H0 σ ts as H _ s x λbs ⟨nr,hz,q⟩ vs H2 s2 hl=>by
  obtain⟨rp,s3⟩:=SR.reps nr.all hl s2
  exact⟨Nat.le_of_lt (small1000 (by omega)),λp hp=>k _ q _ _ ((s3.ext (Zba hp)).pushB (.tup Zak (rp.same (Zba hp))))⟩
end
end VL
end
section
namespace VL
open PySem PySem.Spec L2
variable [Tabs]
section
variable {b:TV}
abbrev OkS:={ x:Str // PyData.strOk x=true }
abbrev dS(x:OkS):PyData:=.str x.1
theorem Enc.str:Enc dS 0:=⟨λa b=>by simp[PyData.eqv,Subtype.ext_iff],λx=>by simp[PyData.canLay0,x.2],λ_=>by simp[PyData.depth]⟩
end
end VL
end
section
namespace L2
open PySem PySem.Spec PyProof.Rows
theorem Zfk:∀ {ks:List Int} {its:List Value},Vals (ks.map V.int) its->IntsAre its ks
 | [],_,.nil=>.nil
 | k::ks,_,.cons r t=>by
  obtain⟨t',rfl⟩:=r
  exact .cons k t' (Zfk t)
def ddI(σ:List Int)(k:Int):List Int:=if k∈σ then σ else σ++[k]
theorem ZmD(σ:List Int)(k:Int):step_dedup σ k=ddI σ k:=by
 unfold step_dedup ddI
 have e:σ.any (· == k)=decide (k∈σ):=by
  rw[Bool.eq_iff_iff,List.any_eq_true,decide_eq_true_iff]
  exact⟨λ⟨x,h1,h2⟩=>by rw[<- beq_iff_eq.mp h2];exact h1,λh=>⟨k,h,by simp⟩⟩
 rw[e]
 by_cases h:k∈σ<;>simp[h]
theorem Zim(ks:List Int):(List.range ks.length).map (λi=>ks.getD i 0)=ks:=by
 refine List.ext_getElem (by simp) λi h1 h2=>?_
 simp[List.getD_eq_getElem?_getD,List.getElem?_eq_getElem h2]
theorem ZmE(ks:List Int):firstMet (λi=>ks.getD i 0) ks.length=ks.foldl ddI []:=by
 unfold firstMet
 rw[Zim]
 have:(step_dedup:List Int->Int->List Int)=ddI:=funext λσ=>funext λk=>ZmD σ k
 rw[this]
def setS(ks:List Int):Int->Bool:=λk=>(ks.foldl ddI []).any (· == k)
def setN(ks:List Int):Nat:=(ks.foldl ddI []).length
def rSetOf(K:W.Frag):List V->Hp->VK->Prop:=λxs H Q=>∃ (l:Addr) (ks:List Int),xs=[.ref l]/\SqL K H l (ks.map V.int)/\ks.length<=4000/\∀ p,H p=none->Q (.ref p) (upd H p (.set (setS ks) (setN ks)))
theorem ZeQ{X:Cx}{K:W.Frag}(hK:X.K=K)(hc:X.calm=true):CallR X (.type "set") (rSetOf K):=by
 subst hK
 intro pins s σ H xs us Q I r h
 obtain⟨l,ks,rfl,hq,hz,q⟩:=h
 obtain⟨u,rfl,ru⟩:=r.one
 cases (show u=Value.ref l from ru)
 obtain⟨its,rv,pl,_⟩:=I.list hq
 have hl:its.toArray.size=ks.length:=by rw[List.size_toArray,<- rv.length,List.length_map]
 refine call_set_list (I.ok.hd hc) pl.isList (Zfk (by simpa using rv)) (by rw[hl];unfold scanBound;omega) λh' tk hS hk=>?_
 rw[hl,ZmE] at hS
 have hn:H s.heap.objs.size=none:=I.hok.fresh (Nat.le_refl _)
 refine⟨.ref s.heap.objs.size,_,I.laid (t':=tk) (o:=.set (setS ks) (setN ks)) (λb o e=>hk b o (Heap.lt_size e) e) (Nat.le_refl _) hS,rfl,q _ hn⟩
def rLenSet:List V->Hp->VK->Prop:=λxs H Q=>∃ (p:Addr) (S:Int->Bool) (n:Nat),xs=[.ref p]/\H p=some (.set S n)/\Q (.int n) H
theorem Zec{X:Cx}:CallR X (.builtin "len") rLenSet:=by
 intro pins s σ H xs us Q I r h
 obtain⟨p,S,n,rfl,hp,q⟩:=h
 obtain⟨u,rfl,ru⟩:=r.one
 cases (show u=Value.ref p from ru)
 obtain⟨o,es,ep,t,e1,hex,hd,_,_,hb,hf,hn⟩:=(show ObjOk X.prog X.w H s.heap p (.set S n) from I.hok p _ hp)
 subst hn
 exact PySem.call_len_set e1 hex hd hf (by unfold scanBound at hb;omega) ⟨.int es.size,H,I.tok _,⟨_,rfl⟩,q⟩
end L2
namespace VL
open PySem PySem.Spec PyProof.Rows L2
variable [Tabs]
section
variable {K:W.Frag}{E:FK}{X:Exc->Sl->Prop}{ρ:Sl}{Q:TV->Prop}
theorem Rep.intsL{H:Hp}{v:V}{ks:List Int}(h:Rep K H v (.list (ks.map .int))):∃ l,v=.ref l/\SqL K H l (ks.map V.int):=by
 cases h with
 | @lst a xs ds h1 h2 =>
  refine⟨a,rfl,?_⟩
  have:xs=ks.map V.int:=by
   clear h1
   induction ks generalizing xs with
   | nil=>cases h2;rfl
   | cons k ks ih=>cases h2 with
    | cons r rs=>rw[r.int_inv,ih rs];rfl
  rw[<- this];exact h1
def SetAt(n:Nat):V->Hp->Prop:=λv H=>∃ p S,v=.ref p/\H p=some (.set S n)
theorem SR.pushSet{H0 H:Hp}{σ:L2.St}{ts:List V}{as:List TV}{l:Addr}{S:Int->Bool}{n:Nat}(h:SR K H0 σ ρ ts as H)(hl:H l=none):SR K H0 σ ρ (.ref l::ts) (.av (.obj (SetAt n))::as) (upd H l (.set S n)):=by
 obtain⟨⟨p,q,h1,h2,h3,h4⟩,e⟩:=h
 have zl:p l+q l=0:=by
  rcases Nat.eq_zero_or_pos (p l+q l) with w|w
  ·exact w
  ·obtain⟨_,w,_⟩:=SR.lsts h1 h2 l w;rw[hl] at w;cases w
 have s2:Same H (upd H l (.set S n)):=Zba hl
 have m:Same (VL.hid H p q) (VL.hid (upd H l (.set S n)) p q):=ZcC s2
 refine⟨⟨p,q,h1.mono m (λb o _=>s2 b o),.cons (.av (.obj (p:=λ_=>0) ⟨l,S,rfl,?_⟩ (λG1 G2 m ⟨p,S,e1,e2⟩=>⟨p,S,e1,m _ _ e2⟩) λ_=>rfl)) (h2.mono m s2) (λb=>by simp),h3,h4⟩,e.trans s2⟩
 unfold VL.hid
 rw[if_pos zl]
 exact Zak
theorem ZhB{a:TV}{ks:List Int}(ha:a.data=.list (ks.map .int))(hz:ks.length<=4000)(q:Q (.av (.obj (SetAt (setN ks)))))(na:NR a:=by first|exact NR.av|exact NR.bor):Bi K E X (rSetOf K) [a] Q:=λH0 σ ρ ts as H vs QV s hl _ k=>by
 obtain⟨v,rfl,s⟩:=ZbV s hl
 have r:=s.top na
 rw[ha] at r
 obtain⟨l,rfl,hq⟩:=Rep.intsL r
 exact⟨l,ks,rfl,hq,hz,λp hp=>k _ q _ _ (s.pop.pushSet hp)⟩
theorem Zgb{n:Nat}(q:Q (.av (.d (.int (n:Nat))))):Bi K E X rLenSet [.av (.obj (SetAt n))] Q:=λH0 σ ρ ts as H vs QV s hl _ k=>by
 obtain⟨v,rfl,s⟩:=ZbV s hl
 have:∃ p S,v=.ref p/\H p=some (.set S n):=by
  obtain⟨⟨p,q,h1,h2,h3,h4⟩,e⟩:=s
  cases h2 with
  | cons r _ _ =>
   cases r with
   | av r =>
    cases r with
    | obj f _ _ =>
     obtain⟨p',S,e1,e2⟩:=f
     exact⟨p',S,e1,Zbg _ _ e2⟩
 obtain⟨p,S,rfl,hp⟩:=this
 exact⟨p,S,n,rfl,hp,k _ q _ _ (s.pop.int _)⟩
theorem ZmF{i j:Int}(q:Q (.av (.d (.int (if j<i then j else i))))):Bi K E X (λxs H Q=>∃ i j,xs=[.int i,.int j]/\Q (.int (if j<i then j else i)) H) [.av (.d (.int i)),.av (.d (.int j))] Q:=λH0 σ ρ ts as H vs QV s hl _ k=>by
 obtain⟨rfl,s2⟩:=Zhq s hl
 exact⟨i,j,rfl,k _ q _ _ (s2.int _)⟩
theorem Zgc{α:Type}[DecidableEq α]{x:α}:∀ {xs:List α} {i:Nat} (h:i<xs.length),i<xs.idxOf x->xs[i]≠x
 | [],i,h,_=>by simp at h
 | a::xs,i,h,hj=>by
  rw[List.idxOf_cons] at hj
  by_cases e:a=x
  ·rw[show (a == x)=true from beq_iff_eq.mpr e] at hj;simp at hj
  ·rw[show (a == x)=false from beq_false_of_ne e] at hj
   cases i with
   | zero=>exact e
   | succ i=>exact Zgc (xs:=xs) (by simpa using h) (by simpa using hj)
end
end VL
end
section
namespace VL
open PySem PySem.Spec PyProof.Rows L2
variable [Tabs]
section
variable {K:W.Frag}{E:FK}{X:Exc->Sl->Prop}{ρ:Sl}{Q:TV->Prop}
theorem ZmG{i j:Int}(q:Q (.av (.d (.int (if j > i then j else i))))):Bi K E X (λxs H Q=>∃ i j,xs=[.int i,.int j]/\Q (.int (if j > i then j else i)) H) [.av (.d (.int i)),.av (.d (.int j))] Q:=λH0 σ ρ ts as H vs QV s hl _ k=>by
 obtain⟨rfl,s2⟩:=Zhq s hl
 exact⟨i,j,rfl,k _ q _ _ (s2.int _)⟩
end
end VL
end
section
namespace VL
open PySem PySem.Spec PyProof.Rows L2
variable [Tabs]
section
variable {K:W.Frag}{G H:Hp}
theorem RAs.cat{zs:List V}{ys:List AV}{q:Fp}(h2:RAs K G H zs ys q):∀ {vs:List V} {xs:List AV} {p:Fp},RAs K G H vs xs p->RAs K G H (vs++zs) (xs++ys) (λb=>p b+q b)
 | _,_,p,.nil e=>by
  have z:(λb=>p b+q b)=q:=funext λb=>by rw[e b,Nat.zero_add]
  rw[z]
  exact h2
 | _,_,_,.cons r1 rs e=>.cons r1 (RAs.cat h2 rs) λb=>by have:=e b;omega
end
section
variable {K:W.Frag}{E:FK}{X:Exc->Sl->Prop}{ρ:Sl}{DV:VEnds}{te:TE}{n:Nat}
theorem Zjo{xs:List AV}(hi:ρ[n]?=some (some (.own xs)))(h:Ev K E X te ρ λa=>∃ ys,a=.av (.own ys)/\xs.length+ys.length<=1000000/\DV.nx (ρ.set n (some (.own (xs++ys))))) :
  Sv K E X (tDrop (tBM K "list" rExtend (tVar n) (tCons te tNil))) ρ DV:=λH0 σ ts as H D st s x f=>by
 obtain⟨l,vs,e1,e2,e3,_⟩:=(s.push (x:=.none) λ_=>.non).write (xs':=xs) st hi
 refine⟨.ref l,e1,Zf2 e2 (h H0 σ ts as H _ s x λa ⟨ys,ea,hz,qn⟩ v H1 s1=>?_)⟩
 subst ea
 obtain⟨l',vs',e1',e2',e3',e4'⟩:=s1.writeE (xs':=xs++ys) st hi
 rw[e1] at e1'
 cases e1'
 obtain⟨⟨p,q,h1,h2,h3,h4⟩,sm⟩:=s1
 cases h2 with
 | @cons _ _ _ _ q1 q2 _ r rs eq =>
  cases r with
  | av r =>
   cases r with
   | @own b zs _ p3 _ hb hr ep =>
    have hlz:=hr.len
    refine⟨l,b,vs',zs,rfl,rfl,e2',hb,Nat.le_of_lt (small6 (by omega)),f.nx _ qn _ _ (e4' _ λG H' p q kp r1 r2=>?_)⟩
    cases r2 with
    | @own b zs' _ p4 _ hb' hr' ep' =>
     have hk:=kp b _ (by have:=ep' b;simp at this;omega) hb
     rw[hb'] at hk
     cases hk
     exact⟨_,λb=>by have:=ep' b;show p b+p4 b<=p b+q b;omega,hr'.cat r1⟩
end
end VL
end
section
namespace L2
open PySem PySem.Spec PyProof.Rows
theorem Rep.str_inv{K:W.Frag}{H:Hp}{v:V}{z:Str}(h:Rep K H v (.str z)):v=.str z:=by cases h;rfl
end L2
end
section
namespace L2
open PySem PySem.Spec PyProof.Rows PySem.Calls
theorem strsV:∀ {vs:List Value} {zs:List Str},StrsAre vs zs->Vals (zs.map V.str) vs
 | _,_,.nil=>.nil
 | _,_,.cons x t h=>.cons ⟨t,rfl⟩ (strsV h)
end L2
namespace VL
open PySem PySem.Spec L2
open PyProof.Rows (sortedS)
variable [Tabs]
section
variable {K:W.Frag}{H H0:Hp}{σ:St}{ρ:Sl}{ts:List V}{as:List TV}
theorem SR.strs(h:SR K H0 σ ρ ts as H):∀ zs:List Str,SR K H0 σ ρ (zs.map V.str++ts) ((zs.map λz=>AV.d (.str z)).map TV.av++as) H
 | []=>h
 | z::zs=>(SR.strs h zs).push λ_=>.str z
end
end VL
end
section
namespace VL
open PySem PySem.Spec PyProof.Rows L2
variable [Tabs]
section
variable {K:W.Frag}{H H0:Hp}{σ:L2.St}{ρ:Sl}{ts:List V}{as:List TV}
theorem SR.intAt{i:Nat}{k:Int}(s:SR K H0 σ ρ ts as H)(h:ρ[i]?=some (some (.d (.int k)))):σ[i]?=some (some (.int k)):=by
 obtain⟨v,e,h2,_⟩:=s.var h
 have r:=(h2 _ rfl).top_d
 cases r
 exact e
end
end VL
end
section
namespace L2
open PySem PySem.Spec PyProof.Rows
def rMinL(K:W.Frag):List V->Hp->VK->Prop:=λxs H Q=>∃ (l:Addr) (ns:List Int),xs=[.ref l]/\SqL K H l (ns.map V.int)/\ns≠[]/\∀ m,m∈ns->(∀ a∈ns,m<=a)->Q (.int m) H
theorem Zjp{X:Cx}{K:W.Frag}(hK:X.K=K)(hc:X.calm=true):CallR X (.builtin "min") (rMinL K):=by
 subst hK
 intro pins s σ H xs us Q I rv h
 obtain⟨l,ns,rfl,hq,hne,q⟩:=h
 obtain⟨u,rfl,ru⟩:=rv.one
 cases ru
 obtain⟨its,rs,pl,hz⟩:=I.list hq
 have hI:=ZeI rs
 obtain⟨ys,e⟩:=hI.allInts.items
 have hl:=pl.isList
 rw[e] at hl
 have hn:PySem.numsOf (intItems ys).toList=ns:=by rw[<- e];exact hI.numsOf
 rw[nums_intItems] at hn
 have hy:0<ys.size:=by
  have h1:ys.size=ns.length:=by rw[<- hn];simp
  have:0<ns.length:=List.length_pos_iff.mpr hne
  omega
 refine min_intList (I.ok.hd hc) hl hy λv h' tk hv hk=>?_
 obtain⟨t,rfl⟩:=intItems_at hv
 obtain⟨h1,h2⟩:=argBest_lt (numAt ys) (ys.size-1)
 refine⟨.int _,H,I.kept (t':=tk) hk,⟨_,rfl⟩,q _ ?_ λa ha=>?_⟩
 ·rw[<- hn,numAt_eq];exact getD_mem (by rw[List.length_map,Array.length_toList];omega)
 ·rw[<- hn] at ha
  obtain⟨j,hj,rfl⟩:=mem_getD ha
  rw[List.length_map,Array.length_toList] at hj
  rw[<- numAt_eq];exact h2 j (by omega)
end L2
namespace VL
open PySem PySem.Spec L2
variable [Tabs]
section
variable {K:W.Frag}{E:FK}{X:Exc->Sl->Prop}{ρ:Sl}{Q:TV->Prop}{a:TV}{n:Nat}
theorem Reps.ints_inv{H:Hp}:∀ {ns:List Int} {xs:List V},Reps K H xs (ns.map PyData.int)->xs=ns.map V.int
 | [],_,.nil=>rfl
 | n::ns,_,.cons r rs=>by rw[r.int_inv,Reps.ints_inv rs];rfl
theorem ZmH{ns:List Int}(ha:a.data=.list (ns.map .int))(hne:ns≠[])(q:∀ m,m∈ns->(∀ x∈ns,m<=x)->Q (.av (.d (.int m))))(na:NR a:=by first|exact NR.av|exact NR.bor):Bi K E X (rMinL K) [a] Q:=λH0 σ ρ ts as H vs QV s hl _ k=>by
 obtain⟨v,rfl,s⟩:=ZbV s hl
 have r:=s.top na
 rw[ha] at r
 obtain⟨l,xs,rfl,h1,h2⟩:=r.list_inv
 rw[Reps.ints_inv h2] at h1
 exact⟨l,ns,rfl,h1,hne,λm m1 m2=>k _ (q m m1 m2) _ H (s.pop.int _)⟩
end
end VL
end
section
namespace L2
open PySem PySem.Spec PyProof.Rows
def byT(w:World):Bool:=w.params.followText "set-order"
abbrev sK(P:Program)(w:World):PySem.KeyKind P w Str:=PySem.strKind P w
def SetT(P:Program)(w:World)(h:Heap)(a:Addr)(zs:List Str):Prop :=
 ∃ o es ep t,h.get? a=some o/\o.ExactSet/\o.data=.set es ep t/\ElemsOf (sK P w) es.toList/\StrsAre (es.toList.map Prod.snd) zs/\zs.Nodup/\es.size<scanBound/\t.fits es.size=true/\t.led=(!byT w)/\(es.size≠0->t.plain=false)
theorem Zdk:∀ {vs' vs:List Value} {zs:List Str},vs'.Perm vs->StrsAre vs zs->∃ zs',StrsAre vs' zs'/\zs'.Perm zs:=by
 intro vs' vs zs p
 induction p generalizing zs with
 | nil=>intro h;exact⟨zs,h,.refl _⟩
 | cons x _ ih =>
  intro h
  cases h with
  | cons y t h =>
   obtain⟨zs',h1,h2⟩:=ih h
   exact⟨_,.cons y t h1,h2.cons _⟩
 | swap x y l =>
  intro h
  cases h with
  | cons y t h =>
   cases h with
   | cons y' t' h=>exact⟨_,.cons y' t' (.cons y t h),.swap _ _ _⟩
 | trans _ _ ih1 ih2 =>
  intro h
  obtain⟨z1,a1,a2⟩:=ih2 h
  obtain⟨z2,b1,b2⟩:=ih1 a1
  exact⟨z2,b1,b2.trans a2⟩
theorem ZhC:∀ {vs us:List Value} {zs ys:List Str},StrsAre vs zs->StrsAre us ys->StrsAre (vs++us) (zs++ys)
 | _,_,_,_,.nil,h=>h
 | _,_,_,_,.cons y t h,g=>.cons y t (ZhC h g)
theorem ZbZ:∀ {vs:List Value} {zs:List Str},StrsAre vs zs->vs.length=zs.length
 | _,_,.nil=>rfl
 | _,_,.cons _ _ h=>congrArg (· + 1) (ZbZ h)
theorem Zfl{P:Program}{w:World}{z:Str}:∀ {es:List (Int×Value)} {zs:List Str},StrsAre (es.map Prod.snd) zs->(z∈zs↔∃ e∈es,(sK P w).is z e.2=true)
 | [],_,.nil=>by simp
 | e::es,zs,h=>by
  obtain⟨hh,v⟩:=e
  rw[List.map_cons] at h
  cases h with
  | cons y t h =>
   have ih:=Zfl (P:=P) (w:=w) (z:=z) h
   rw[List.mem_cons,ih]
   constructor
   ·rintro (rfl|⟨e,he,q⟩)
    ·exact⟨_,.head _,strKind_is P w _ _⟩
    ·exact⟨e,.tail _ he,q⟩
   ·rintro⟨e,he,q⟩
    rcases List.mem_cons.mp he with rfl|he
    ·exact .inl ((sK P w).inj _ _ _ q (strKind_is P w _ _))
    ·exact .inr ⟨e,he,q⟩
theorem Zfm(t:SetTable)(n:Nat):(t.orStandIn n).led=t.led/\((t.orStandIn n).plain=true->t.plain=true):=by
 unfold SetTable.orStandIn
 split
 ·exact⟨rfl,id⟩
 ·exact⟨rfl,λh=>by cases h⟩
theorem ZeR(t:SetTable)(es:Array (Int×Value))(h:Int)(x:Value):(layNew t es h x).2.1.led=t.led:=by
 unfold layNew
 split
 ·exact (Zfm _ _).1
 ·rfl
theorem Zin{t t':SetTable}{hs:Array Int}{n:Nat}{o:Array Nat}(e:t.relaid hs n=some (t',o)):t'.led=t.led/\t'.plain=t.plain:=by
 unfold SetTable.relaid SetTable.laid at e
 simp only[Option.bind_eq_bind,Option.bind_eq_some_iff] at e
 obtain⟨ow,_,e⟩:=e
 cases e
 exact⟨rfl,rfl⟩
theorem ZdF(t:SetTable)(es:Array (Int×Value))(n:Nat):(relayAll t es n).2.1.led=t.led/\(t.plain=false->(relayAll t es n).2.1.plain=false):=by
 unfold relayAll
 split
 ·rename_i t' o e
  obtain⟨e1,e2⟩:=Zin e
  dsimp only
  split
  ·exact⟨e1,λh=>by rw[<- h];exact e2⟩
  ·exact⟨rfl,λ_=>rfl⟩
 ·exact⟨rfl,λ_=>rfl⟩
section
variable {P:Program}{w:World}{A:Around}{E:Value->Shared->Prop}{s:Shared}
theorem ZeS{h:Heap}{a:Addr}{o:Obj}{es:Array (Int×Value)}{ep:Nat}{t:SetTable}(ho:h.get? a=some o)(hex:o.ExactSet)(hd:o.data=.set es ep t)
  {es':Array (Int×Value)} {t':SetTable} {zs:List Str} (hel:ElemsOf (sK P w) es'.toList) (hst:StrsAre (es'.toList.map Prod.snd) zs) (hnd:zs.Nodup) (hb:es'.size<scanBound) (hf:t'.fits es'.size=true) (hl:t'.led=(!byT w)) (hp:t'.plain=false) :
  (h.update a (Obj.putSet es' t')).get? a=some { o with data:=.set es' (ep+1) t' }/\SetT P w (h.update a (Obj.putSet es' t')) a zs:=by
 have hg:(h.update a (Obj.putSet es' t')).get? a=some { o with data:=.set es' (ep+1) t' }:=by
  have:=Heap.get?_update_self (Obj.putSet es' t') ho (by rw[putSet_of es' t' hd];rfl)
  rw[putSet_of es' t' hd] at this;exact this
 exact⟨hg,_,es',ep+1,t',hg,hex,rfl,hel,hst,hnd,hb,hf,hl,λ_=>hp⟩
theorem addTailT{g:Bool->Sem Unit}(hg:∀ (b:Bool) (s₁:Shared) (Q':Unit->Shared->Prop),Q' () s₁->wpAny (model P w) A (g b) Q' E s₁)
  {a:Addr} {o:Obj} {es:Array (Int×Value)} {ep:Nat} {t:SetTable} (ho:s.heap.get? a=some o) (hex:o.ExactSet) (hd:o.data=.set es ep t)
  {es1:Array (Int×Value)} {t2:SetTable} {zs:List Str} (hel1:ElemsOf (sK P w) es1.toList) (hst:StrsAre (es1.toList.map Prod.snd) zs) (hnd:zs.Nodup)
  (hb1:es1.size<scanBound) (hf2:t2.fits es1.size=true) (hl:t2.led=(!byT w)) (hp:t2.plain=false) {wasDummy:Bool} {R:Option Bool->Shared->Prop}
  (h:∀ h' zs',Heap.SameBut a s.heap h'->SetT P w h' a zs'->zs'.Perm zs->R (some true) { s with heap:=h' }) :
  wpAny (model P w) A (do
    storeSet a es1 t2
    if (!wasDummy && t2.tooFull)=true then do
      g (relayAll t2 es1 (SetTable.grown es1.size)).2.2
      storeSet a (relayAll t2 es1 (SetTable.grown es1.size)).1 (relayAll t2 es1 (SetTable.grown es1.size)).2.1
      pure (some true)
     else pure (some true)) R E s:=by
 refine wpAny_bind (wpAny_storeSet_of ho hd ?_ (fits_of_scanBound hb1))
 obtain⟨ho1,hS1⟩:=ZeS (P:=P) (w:=w) ho hex hd hel1 hst hnd hb1 hf2 hl hp
 have hsb1:=Heap.SameBut.update s.heap a (Obj.putSet es1 t2)
 split
 ·have hpm:=relayAll_perm t2 es1 (SetTable.grown es1.size)
  have hfr:=relayAll_fits t2 es1 (SetTable.grown es1.size)
  obtain⟨hl2,hp2⟩:=ZdF t2 es1 (SetTable.grown es1.size)
  generalize hRl:relayAll t2 es1 (SetTable.grown es1.size)=Rl at hpm hfr hl2 hp2 ⊢
  obtain⟨es2,t3,gave2⟩:=Rl
  dsimp only at hpm hfr hl2 hp2 ⊢
  have hel2:ElemsOf (sK P w) es2.toList:=hel1.perm hpm
  obtain⟨zs',hst2,hzp⟩:=Zdk (hpm.map Prod.snd) hst
  have hsz:es2.size=es1.size:=by rw[<- Array.length_toList,hpm.length_eq,Array.length_toList]
  have hb2:es2.size<scanBound:=by rw[hsz];exact hb1
  refine wpAny_bind (hg _ _ _ ?_)
  refine wpAny_bind (wpAny_storeSet_of ho1 rfl ?_ (fits_of_scanBound hb2))
  obtain⟨_,hS2⟩:=ZeS (P:=P) (w:=w) ho1 hex rfl hel2 hst2 (hzp.nodup_iff.mpr hnd) hb2 hfr (hl2.trans hl) (hp2 hp)
  exact wpAny_pure (h _ _ (hsb1.trans (Heap.SameBut.update _ a _)) hS2 hzp)
 ·exact wpAny_pure (h _ _ hsb1 hS1 (.refl _))
theorem ZkY{a:Addr}{zs:List Str}{z:Str}{tk:Tok}{Q:Bool->Shared->Prop}(hS:SetT P w s.heap a zs)(hroom:zs.length+1<scanBound)
  (h:∀ h' zs' b,Heap.SameBut a s.heap h'->SetT P w h' a zs'->(∀ y,y∈zs'↔y∈zs\/y=z)->zs'.length<=zs.length+1->Q b { s with heap:=h' }) :
  wpAny (model P w) A (setAddHashed a (.str z tk) ((sK P w).hash z)) Q E s:=by
 obtain⟨o,es,ep,t,ho,hex,hd,hel,hst,hnd,hb,hf,hl,hp⟩:=hS
 have hlen:es.size=zs.length:=by have:=ZbZ hst;rwa [List.length_map,Array.length_toList] at this
 have hkey:=strKind_is P w z tk
 have hsc:(Value.str z tk).scannable=true:=rfl
 have hb1:es.size+1<scanBound:=by rw[hlen];exact hroom
 unfold setAddHashed setAddHashedIn
 refine wpAny_holding (wpAny_bind (wpAny_setState_of ho hd hf ?_))
 dsimp only
 rw[byScan_of hsc hb hel]
 simp only[↓reduceIte]
 unfold setAddByScan
 refine wpAny_bind ?_
 refine wpAny_bind (wpAny_rule ?_)
 refine wpAny_bind (wpAny_setScan_of hkey ho hd hf hel ?_)
 cases hr:List.findIdx? (λe=>(sK P w).is z e.2) es.toList with
 | some j =>
  dsimp only
  obtain⟨hj,hpj,_⟩:=List.findIdx?_eq_some_iff_getElem.mp hr
  have hz:z∈zs:=(Zfl hst).mpr ⟨es.toList[j],List.getElem_mem hj,hpj⟩
  refine wpAny_pure (wpAny_pure ?_)
  have e:s={ s with heap:=s.heap }:=by cases s;rfl
  rw[e]
  exact h s.heap zs _ (Heap.SameBut.refl a s.heap) ⟨o,es,ep,t,ho,hex,hd,hel,hst,hnd,hb,hf,hl,hp⟩ (λy=>⟨.inl,λq=>q.elim id λe=>e▸hz⟩) (Nat.le_succ _)
 | none =>
  dsimp only
  have hz:z∉zs:=λq=>by
   obtain⟨e,he,hpe⟩:=(Zfl (P:=P) (w:=w) hst).mp q
   have:=List.findIdx?_eq_none_iff.mp hr e he
   rw[hpe] at this;exact Bool.noConfusion this
  have hgw:∀ (b:Bool) {s₁:Shared} {Q':Unit->Shared->Prop},Q' () s₁->wpAny (model P w) A (match b with|true=>rule "set.scan.the-table-gave-way" | false=>pure ()) Q' E s₁ :=
   λb s₁ Q' hq=>by cases b<;>first|exact wpAny_pure hq|exact wpAny_rule hq
  have hperm:=layNew_perm t es ((sK P w).hash z) (.str z tk)
  have hfits:=layNew_fits t es ((sK P w).hash z) (.str z tk)
  have hled:=ZeR t es ((sK P w).hash z) (.str z tk)
  generalize hL:layNew t es ((sK P w).hash z) (.str z tk)=L at hperm hfits hled ⊢
  obtain⟨es1,t1,wasDummy,gave⟩:=L
  dsimp only at hperm hfits hled ⊢
  rw[Array.toList_push] at hperm
  have hel1:ElemsOf (sK P w) es1.toList:=(hel.push hkey hsc).perm hperm
  have hst0:StrsAre ((es.toList++[((sK P w).hash z,Value.str z tk)]).map Prod.snd) (zs++[z]):=by rw[List.map_append];exact ZhC hst (.cons z tk .nil)
  obtain⟨zs1,hst1,hzp⟩:=Zdk (hperm.map Prod.snd) hst0
  have hnd1:zs1.Nodup:=hzp.nodup_iff.mpr (by rw[List.nodup_append];exact⟨hnd,by simp,λa ha b hb e=>hz (by rw[List.mem_singleton.mp hb] at e;exact e▸ha)⟩)
  have hb1':es1.size<scanBound:=by rw[<- Array.length_toList,hperm.length_eq,List.length_append,Array.length_toList];simpa using hb1
  have hend:∀ h' zs',Heap.SameBut a s.heap h'->SetT P w h' a zs'->zs'.Perm zs1->Q true { s with heap:=h' }:=λh' zs' hsb hS' hp' =>
   h h' zs' true hsb hS' (λy=>by rw[(hp'.trans hzp).mem_iff];simp) (by rw[(hp'.trans hzp).length_eq,List.length_append];exact Nat.le_refl _)
  refine wpAny_bind (hgw _ ?_)
  split
  ·refine wpAny_bind ?_
   rw[hashByValue_scannable 8 hsc]
   refine wpAny_pure ?_
   refine addTailT (t2:={ t1 with plain:=false }) ?_ ho hex hd hel1 hst1 hnd1 hb1' (SetTable.fits_plain_off hfits) (hled.trans hl) rfl ?_
   ·intro b s₁ Q' hq;cases b<;>first|exact wpAny_pure hq|exact wpAny_rule hq
   ·intro h' zs' hsb hS' hp';dsimp only;exact wpAny_pure (hend h' zs' hsb hS' hp')
  ·rename_i hpl
   refine wpAny_bind (wpAny_pure ?_)
   simp only[↓reduceIte]
   refine addTailT ?_ ho hex hd hel1 hst1 hnd1 hb1' hfits (hled.trans hl) (by simpa using hpl) ?_
   ·intro b s₁ Q' hq;cases b<;>first|exact wpAny_pure hq|exact wpAny_rule hq
   ·intro h' zs' hsb hS' hp';dsimp only;exact wpAny_pure (hend h' zs' hsb hS' hp')
end
end L2
end
section
namespace L2
open PySem PySem.Spec PyProof.Rows
section
variable {P:Program}{w:World}{A:Around}{E:Value->Shared->Prop}{s:Shared}
theorem Zdl(a:Value){Q₁:Value->Shared->Prop}
  (h:Q₁ (.ref s.heap.objs.size) { s with heap:=s.heap.push { cls:=.type "set",dict:=none,data:=.set #[] 0 (.fresh 0 0 (!byT w)) } }) :
  codeAny (model P w) A (.call (.builtin "set.__new__") ⟨[.type "set",a],[]⟩) (wants Q₁ E) s:=by
 refine codeAny_of_tree ?_
 show wpAny _ A.in1 (do checkBuiltinCall "set.__new__" ⟨[.type "set",a],[]⟩;again (.builtin "set.__new__" ⟨[.type "set",a],[]⟩)) _ _ s
 refine wpAny_bind (wpAny_of_eq (PySem.F.newCall_set_1 a) (wpAny_pure ⟨plainId_quiet PySem.F.plain_set_new _,codeAny_builtin PySem.F.entry_set_new ?_⟩))
 rw[Around.under_plainId PySem.F.plain_set_new _]
 unfold Builtin.«set.__new__» Builtin.Frozenset.newClass
 have hsub:=sub_set_self
 obtain⟨hp,g,d,tk,os⟩:=s
 dsimp only
 wp_walk
 refine wpAny_askSetting (wpAny_pure ?_)
 dsimp only
 simp only[newObj]
 refine wpAny_bind (wpAny_alloc (wpAny_pure ?_))
 exact wpAny_pure h
end
section
variable {P:Program}{w:World}{A:Around}{R:Result->Shared->Prop}{I:Addr}{fp wr:List Addr}{G:Array GenState->Array GenState->Prop}{n:Nat}{Pv:Nat->Value->Prop}{St:Nat->Shared->Prop}
theorem SetT.moved{h h':Heap}{a:Addr}{zs:List Str}(hS:SetT P w h a zs)(k:∀ o,h.get? a=some o->h'.get? a=some o):SetT P w h' a zs:=by
 obtain⟨o,es,ep,t,ho,rest⟩:=hS
 exact⟨o,es,ep,t,k o ho,rest⟩
theorem Zjq(W:WalksS P w A.in1 I fp wr G n Pv St)(S:Addr)(hSf:S∉fp)(val:Nat->Str)(hval:∀ i v,Pv i v->∃ t,v=.str (val i) t)(hb:n+1<scanBound) :
  ∀ (k i:Nat) (s:Shared) (zs:List Str),n-i=k->i<=n->St i s->SetT P w s.heap S zs->zs.length<=i->(∀ y,y∈zs↔∃ j,j<i/\y=val j) ->
   (∀ s' zs',Moved (S::wr) G s s'->SetT P w s'.heap S zs'->(∀ y,y∈zs'↔∃ j,j<n/\y=val j)->zs'.length<=n->R (.ok (.ret .none)) s') ->
   codeAny (model P w) A (.builtin "set.update.loop" ⟨[.ref S,.ref I],[]⟩) R s:=by
 have hSw:S∉wr:=λh=>hSf (W.sub _ h)
 have hsub:∀ b∈wr,b∈S::wr:=λb hb=>List.mem_cons_of_mem _ hb
 intro k
 induction k with
 | zero =>
  intro i s zs hk hi hst hS hl hm hR
  have hin:i=n:=by omega
  subst hin
  refine codeAny_builtin PyProof.Rows.F.entry_set_update_loop ?_
  rw[Around.under_plainId PyProof.Rows.F.plain_set_update_loop _]
  show wpAny _ A.in1 (pyNext (.ref I) >>= _) _ _ s
  refine wpAny_bind (W.done s _ _ hst λs' hmv=>?_)
  show wpAny _ A.in1 (ret Value.none) _ _ s'
  exact wpAny_pure (hR s' zs (hmv.mono hsub) (hS.moved λo e=>hmv.heap S _ hSw e) hm hl)
 | succ k ih =>
  intro i s zs hk hi hst hS hl hm hR
  have hlt:i<n:=by omega
  refine codeAny_builtin PyProof.Rows.F.entry_set_update_loop ?_
  rw[Around.under_plainId PyProof.Rows.F.plain_set_update_loop _]
  show wpAny _ A.in1 (pyNext (.ref I) >>= _) _ _ s
  refine wpAny_bind (W.item i s _ _ hlt hst λv s' hP hst' hmv=>?_)
  obtain⟨t,rfl⟩:=hval i v hP
  have hS':SetT P w s'.heap S zs:=hS.moved λo e=>hmv.heap S _ hSw e
  show wpAny _ A.in1 (holding [Value.str (val i) t] (setAdd S (.str (val i) t)) >>= _) _ _ s'
  refine wpAny_bind (wpAny_holding ?_)
  unfold setAdd
  refine wpAny_holding ?_
  refine wpAny_bind ((sK P w).pyHash (k:=val i) (strKind_is P w _ _) ?_)
  refine ZkY (s:={ s' with toks:=s'.toks+1 }) hS' (by omega) λh' zs' b hsb hS2 hm2 hl2=>?_
  refine wpAny_pure ⟨plainId_quiet PyProof.Rows.F.plain_set_update_loop _,ih (i+1) _ zs' (by omega) hlt (W.frame _ s' _ _ hst' (Nat.le_succ _) λb hb o e=>?_) hS2 (by omega) (λy=>?_) λs'' zs'' hm'' hS'' hmm hll=>?_⟩
  ·rw[hsb.2 b (λh:b=S=>hSf (by rw[<- h];exact hb))];exact e
  ·rw[hm2,hm]
   constructor
   ·rintro (⟨j,hj,e⟩|e)
    ·exact⟨j,by omega,e⟩
    ·exact⟨i,by omega,e⟩
   ·rintro⟨j,hj,e⟩
    by_cases q:j=i
    ·subst q;exact .inr e
    ·exact .inl ⟨j,by omega,e⟩
  ·refine hR s'' zs'' (Moved.trans W.gtrans ((hmv.mono hsub).then_heap (Nat.le_succ _) λb o hb e=>?_) hm'') hS'' hmm hll
   rw[hsb.2 b (λh:b=S=>hb (by rw[h];exact List.mem_cons_self))];exact e
end
theorem Zjr:∀ {vs:List Value} {ns:List Str},StrsAre vs ns->∀ (i:Nat) (v:Value),vs[i]?=some v->∃ t,v=.str (ns.getD i Str.empty) t
 | _,_,.nil,i,v,h=>by simp at h
 | _,_,.cons n t hr,0,v,h=>by simp at h;exact⟨t,by rw[<- h];rfl⟩
 | _,_,.cons n t hr,i+1,v,h=>by
  simp only[List.getElem?_cons_succ] at h
  obtain⟨t',e⟩:=Zjr hr i v h
  exact⟨t',by rw[e];rfl⟩
end L2
end
section
namespace L2
open PySem PySem.Spec PyProof.Rows
theorem Zdz{α:Type}:∀ {l:List α} {i:Nat} (h:i<l.length),(l[i]::l.eraseIdx i).Perm l
 | x::l,0,_=>.refl _
 | x::l,i+1,h=>by
  have:=Zdz (l:=l) (i:=i) (by simpa using h)
  exact (List.Perm.swap ..).trans (this.cons x)
theorem Zjs{α:Type}(next:Nat->Nat):∀ (fuel k:Nat) (left:List α) (out:Array α),fuel=left.length->(pickOrder.go next fuel k left out).toList.Perm (out.toList++left)
 | 0,k,left,out,h=>by
  cases left with
  | nil=>simp[pickOrder.go]
  | cons _ _=>cases h
 | fuel+1,k,left,out,h=>by
  have hl:next k%left.length<left.length:=Nat.mod_lt _ (by omega)
  rw[pickOrder.go,List.getElem?_eq_getElem hl]
  dsimp only
  refine (Zjs next fuel (k+1) _ _ (by rw[List.length_eraseIdx,if_pos hl];omega)).trans ?_
  rw[Array.toList_push,List.append_assoc]
  exact List.Perm.append_left _ (Zdz hl)
theorem Zdm{α:Type}(next:Nat->Nat)(xs:Array α):(pickOrder next xs).toList.Perm xs.toList:=by
 unfold pickOrder
 simpa using Zjs next xs.size 0 xs.toList #[] (by simp)
section
variable {M:Model}{A:Around}{E:Value->Shared->Prop}
theorem Zgd{s:Shared}{src:Source}{n:Nat}{Q:Nat->Shared->Prop}(hn:n≠0)(h:∀ i d,i<n->Q i { s with drawn:=d }):wpAny M A (choose src n) Q E s:=λΓ p hΓ=>by
 unfold choose
 rw[Sem.wp_choose]
 refine⟨hn,?_⟩
 exact wpAny_pure (h _ _ (Nat.mod_lt _ (Nat.pos_of_ne_zero hn))) Γ p hΓ
theorem ZgN{α:Type}:∀ (n:Nat) (xs:List α) (s:Shared) (Q:List α->Shared->Prop),xs.length=n->(∀ ys d,ys.Perm xs->Q ys { s with drawn:=d })->wpAny M A (drawOrder n xs) Q E s
 | 0,[],s,Q,_,h=>wpAny_pure (h [] s.drawn (.refl _))
 | n+1,x::xs,s,Q,hl,h=>by
  simp only[drawOrder]
  refine wpAny_bind (Zgd (by simp) λi d hi=>?_)
  rw[List.getElem?_eq_getElem hi]
  dsimp only
  refine wpAny_bind (ZgN n _ _ _ (by rw[List.length_eraseIdx,if_pos hi];omega) λys d' hp=>wpAny_pure (h _ d' ?_))
  exact (hp.cons _).trans (Zdz hi)
 | 0,_::_,s,Q,hl,_=>by cases hl
 | n+1,[],s,Q,hl,_=>by cases hl
end
theorem Zad:Slot "set_iterator" "__next__" "set_iterator.__next__" :=
 .of (owner := "set_iterator") (n := "__next__") (by rw[typeLookup_type,builtinLookup_eq_fast];kernel_rfl) (by decide +kernel) (by decide +kernel) (by decide +kernel)
  (by first|exact .inl (by decide +kernel)|exact .inr (by decide +kernel)) (by rw[isSubtype_type];kernel_rfl)
theorem Zbb:Slot "set_iterator" "__iter__" "set_iterator.__iter__" :=
 .of (owner := "set_iterator") (n := "__iter__") (by rw[typeLookup_type,builtinLookup_eq_fast];kernel_rfl) (by decide +kernel) (by decide +kernel) (by decide +kernel)
  (by first|exact .inl (by decide +kernel)|exact .inr (by decide +kernel)) (by rw[isSubtype_type];kernel_rfl)
theorem Zaj:entryFor table "set_iterator.__next__" = some Builtin.«set_iterator.__next__»:=entryFor_of_tree (by kernel_rfl)
theorem Zcd:entryFor table "set_iterator.__iter__" = some Builtin.«dict_keyiterator.__iter__»:=entryFor_alias (id' := "dict_keyiterator.__iter__") (by kernel_rfl) rfl (by decide +kernel) (by kernel_rfl)
theorem Zcn:entryFor table "set.__iter__" = some Builtin.«frozenset.__iter__»:=entryFor_alias (id' := "frozenset.__iter__") (by kernel_rfl) rfl (by decide +kernel) (by kernel_rfl)
theorem Zam(a:Value):argsOk "set_iterator.__next__" ⟨[a],[]⟩:=by unfold argsOk;kernel_rfl
theorem Zco(a:Value):argsOk "set_iterator.__iter__" ⟨[a],[]⟩:=by unfold argsOk;kernel_rfl
def ItAt(h:Heap)(it:Addr)(first:Value)(i:Nat)(a:Addr)(n ep:Nat):Prop:=∃ o,h.get? it=some o/\o.cls=.type "set_iterator" /\ o.data=.fields #[first,.int i 0,.ref a,.int n 0,.int ep 0]
def WkT(w:World)(it a pl:Addr)(vs:List Value)(i:Nat)(h:Heap):Prop :=
  ∃ o es ep t,h.get? a=some o/\o.data=.set es ep t/\t.fits es.size=true/\t.led=(!byT w)/\vs.length=es.size /\
    ((byT w=true/\ItAt h it (.int 0 0) i a es.size ep/\vs=(pickOrder (w.params.setOrder a ep) es).toList.map Prod.snd) \/
     (byT w=false/\t.plain=false/\1<es.size/\∃ ps:List Nat,ItAt h it (.ref pl) i a es.size ep/\(∃ op n,h.get? pl=some op/\op.data=.seq (ps.map λ(p:Nat)=>rawInt p).toArray n)/\ps.length=vs.length/\∀ (j p:Nat),ps[j]?=some p->∃ e:Int×Value,es[p]?=some e/\vs[j]?=some e.2) \/
     (byT w=false/\es.size<=1/\∃ slot:Nat,ItAt h it (.int slot 0) i a es.size ep/\SetTable.below t.place slot=i/\vs=es.toList.map Prod.snd))
theorem ItAt.keep{h h':Heap}{it a:Addr}{first:Value}{i n ep:Nat}(x:ItAt h it first i a n ep)(k:∀ o,h.get? it=some o->h'.get? it=some o):ItAt h' it first i a n ep:=let ⟨o,e,r⟩:=x;⟨o,k o e,r⟩
theorem WkT.keep{w:World}{h h':Heap}{it a pl:Addr}{vs:List Value}{i:Nat}(x:WkT w it a pl vs i h)(k:∀ b∈[it,a,pl],∀ o,h.get? b=some o->h'.get? b=some o):WkT w it a pl vs i h':=by
 obtain⟨o,es,ep,t,h1,h2,h3,h4,h5,r⟩:=x
 refine⟨o,es,ep,t,k a (by simp) o h1,h2,h3,h4,h5,?_⟩
 rcases r with⟨a1,a2,a3⟩|⟨a1,a2,a3,ps,b1,⟨op,n,c1,c2⟩,b3⟩|⟨a1,a2,sl,b1,b2⟩
 ·exact .inl ⟨a1,a2.keep (k it (by simp)),a3⟩
 ·exact .inr (.inl ⟨a1,a2,a3,ps,b1.keep (k it (by simp)),⟨op,n,k pl (by simp) op c1,c2⟩,b3⟩)
 ·exact .inr (.inr ⟨a1,a2,sl,b1.keep (k it (by simp)),b2⟩)
section
variable {P:Program}{w:World}{A:Around}{E:Value->Shared->Prop}{s:Shared}{a:Addr}
theorem setsBy{Q:Bool->Shared->Prop}(h:Q (byT w) s):wpAny (model P w) A setsByText Q E s:=wpAny_bind (wpAny_askSetting (wpAny_pure h))
theorem Zdn{a:Addr}{o:Obj}{es:Array (Int×Value)}{ep sl i:Nat}{t:SetTable}{Q:Option (Value×Nat)->Shared->Prop}(h1:s.heap.get? a=some o)(h2:o.data=.set es ep t)(h3:t.fits es.size=true)(hb:byT w=true)
  (h:Q (((pickOrder (w.params.setOrder a ep) es)[i]?).map λe=>(e.2,sl)) s):wpAny (model P w) A (setNext a sl i ep) Q E s:=by
 unfold setNext
 refine wpAny_bind (wpAny_setState_of h1 h2 h3 ?_)
 dsimp only
 refine wpAny_bind (setsBy ?_)
 rw[hb,if_pos rfl]
 simp only[bne_self_eq_false,Bool.false_eq_true,if_false]
 refine wpAny_bind ?_
 unfold setWalk
 refine wpAny_bind (wpAny_setState_of h1 h2 h3 ?_)
 dsimp only
 refine wpAny_bind (setsBy ?_)
 rw[hb,if_pos rfl]
 exact wpAny_bind (wpAny_askSetting (wpAny_pure (wpAny_pure h)))
theorem ZhD{a:Addr}{o:Obj}{es:Array (Int×Value)}{ep sl i:Nat}{t:SetTable}{Q:Option (Value×Nat)->Shared->Prop}(h1:s.heap.get? a=some o)(h2:o.data=.set es ep t)(h3:t.fits es.size=true)(h4:t.led=(!byT w))(hb:byT w=false)(hz:es.size<=1)
  (h:Q (match es[SetTable.below t.place sl]?,t.place[SetTable.below t.place sl]? with|some (_,x),some j=>some (x,j+1)|_,_=>none) s):wpAny (model P w) A (setNext a sl i ep) Q E s:=by
 unfold setNext
 refine wpAny_bind (wpAny_setState_of h1 h2 h3 ?_)
 dsimp only
 refine wpAny_bind (setsBy ?_)
 rw[hb,if_neg Bool.false_ne_true]
 refine wpAny_ite_split (λhd=>?_) λ_=>?_
 ·have hd:(!t.plain && decide (es.size > 1))=true:=hd
  simp only[Bool.and_eq_true,decide_eq_true_eq] at hd
  omega
 refine wpAny_bind ?_
 show wpAny _ _ (if (!t.led && !es.isEmpty)=true then _ else _) _ _ _
 rw[if_neg (by rw[h4,hb];simp)]
 exact wpAny_pure (wpAny_pure h)
theorem ZeT{a:Addr}{o:Obj}{es:Array (Int×Value)}{ep pl:Nat}{t:SetTable}{e:Int×Value}{Q:Value->Shared->Prop}(h1:s.heap.get? a=some o)(h2:o.data=.set es ep t)(h3:t.fits es.size=true)(he:es[pl]?=some e)
  (h:Q e.2 s):wpAny (model P w) A (setNextDrawn a pl ep) Q E s:=by
 unfold setNextDrawn
 refine wpAny_bind (wpAny_setState_of h1 h2 h3 ?_)
 dsimp only
 simp only[bne_self_eq_false,Bool.false_eq_true,if_false,he]
 exact wpAny_pure h
theorem ZkZ{it a pl:Addr}{vs:List Value}{i:Nat}{Q:Option Value->Shared->Prop}(hit:it≠a)(hip:it≠pl)(x:WkT w it a pl vs i s.heap){v:Value}(hv:vs[i]?=some v)
  (h:∀ h',WkT w it a pl vs (i+1) h'->Heap.SameBut it s.heap h'->Q (some v) { s with heap:=h' }):wpAny (model P w) A (pyNext (.ref it)) Q E s:=by
 obtain⟨o,es,ep,t,h1,h2,h3,h4,h5,r⟩:=x
 have hi:i<es.size:=by
  rcases Nat.lt_or_ge i vs.length with q|q
  ·omega
  ·rw[List.getElem?_eq_none q] at hv;cases hv
 have step:∀ (first first':Value) (oi:Obj),s.heap.get? it=some oi->oi.cls=.type "set_iterator" -> oi.data=.fields #[first,.int i 0,.ref a,.int es.size 0,.int ep 0]->ItAt ((s.heap.update it (Obj.mapFields (·.setIfInBounds 0 first'))).update it (Obj.mapFields (·.setIfInBounds 1 (rawInt ((i:Int)+1))))) it first' (i+1) a es.size ep/\ItAt (s.heap.update it (Obj.mapFields (·.setIfInBounds 1 (rawInt ((i:Int)+1))))) it first (i+1) a es.size ep:=λfirst first' oi e1 e2 e3=>by
  have g1:=Heap.get?_update_self (Obj.mapFields (·.setIfInBounds 0 first')) e1 (Obj.isFreed_of_fields (Obj.data_mapFields e3 _))
  have d1:(Obj.mapFields (·.setIfInBounds 0 first') oi).data=.fields #[first',.int i 0,.ref a,.int es.size 0,.int ep 0]:=by rw[Obj.data_mapFields e3];rfl
  refine⟨⟨_,Heap.get?_update_self _ g1 (Obj.isFreed_of_fields (Obj.data_mapFields d1 _)),(Obj.cls_mapFields ..).trans ((Obj.cls_mapFields ..).trans e2),by rw[Obj.data_mapFields d1];rfl⟩,⟨_,Heap.get?_update_self _ e1 (Obj.isFreed_of_fields (Obj.data_mapFields e3 _)),(Obj.cls_mapFields ..).trans e2,by rw[Obj.data_mapFields e3];rfl⟩⟩
 rcases r with⟨a1,⟨oi,e1,e2,e3⟩,a3⟩|⟨a1,a2,a3,ps,⟨oi,e1,e2,e3⟩,⟨op,n,c1,c2⟩,b3,b4⟩|⟨a1,a2,sl,⟨oi,e1,e2,e3⟩,b2,b3⟩
 ·have hT:s.TypeIs (.ref it) "set_iterator" := ⟨_,e1,e2⟩
  unfold pyNext
  refine wpAny_bind (wpAny_attempt (wpAny_callSpecial?_slot (name:=Str.ofString "__next__") hT Zad (wpAny_call_entry Zad hT Zaj ?_ (Zam _))))
  unfold Builtin.«set_iterator.__next__»
  refine wpAny_bind (wpAny_pure ?_)
  refine wpAny_bind (wpAny_fieldsOf e1 e3 ?_)
  dsimp only
  refine wpAny_bind (wpAny_setEntries_of h1 h2 h3 ?_)
  rw[if_neg (by simp)]
  have hs0:=step (.int 0 0) (.int 0 0) oi e1 e2 e3
  refine wpAny_bind (Zdn h1 h2 h3 a1 ?_)
  have hpk:(pickOrder (w.params.setOrder a ep) es)[(i:Int).toNat]?.map Prod.snd=some v:=by
   rw[a3,List.getElem?_map,Array.getElem?_toList] at hv
   exact hv
  obtain⟨e,he,rfl⟩:=Option.map_eq_some_iff.mp hpk
  rw[show ((ep:Nat):Int).toNat=ep from Int.toNat_natCast _,he]
  dsimp only[Option.map_some]
  refine wpAny_bind (wpAny_setField e1 e3 (by simp) ?_)
  have g1:=Heap.get?_update_self (Obj.mapFields (·.setIfInBounds 0 (rawInt ((Int.toNat 0:Nat):Int)))) e1 (Obj.isFreed_of_fields (Obj.data_mapFields e3 _))
  refine wpAny_bind (wpAny_setField g1 (Obj.data_mapFields e3 _) (by simp) ?_)
  refine wpAny_pure ⟨_,rfl,wpAny_pure (h _ ?_ ((Heap.SameBut.update ..).trans (Heap.SameBut.update ..)))⟩
  have ka:∀ {b:Addr} {u:Obj},b≠it->s.heap.get? b=some u->((s.heap.update it (Obj.mapFields (·.setIfInBounds 0 (rawInt ((Int.toNat 0:Nat):Int))))).update it (Obj.mapFields (·.setIfInBounds 1 (rawInt ((i:Int)+1))))).get? b=some u:=λhb q=>by
   rw[Heap.get?_update_ne _ _ _ _ hb,Heap.get?_update_ne _ _ _ _ hb];exact q
  exact⟨o,es,ep,t,ka (Ne.symm hit) h1,h2,h3,h4,h5,.inl ⟨a1,hs0.1,a3⟩⟩
 ·have hT:s.TypeIs (.ref it) "set_iterator" := ⟨_,e1,e2⟩
  unfold pyNext
  refine wpAny_bind (wpAny_attempt (wpAny_callSpecial?_slot (name:=Str.ofString "__next__") hT Zad (wpAny_call_entry Zad hT Zaj ?_ (Zam _))))
  unfold Builtin.«set_iterator.__next__»
  refine wpAny_bind (wpAny_pure ?_)
  refine wpAny_bind (wpAny_fieldsOf e1 e3 ?_)
  dsimp only
  refine wpAny_bind (wpAny_setEntries_of h1 h2 h3 ?_)
  rw[if_neg (by simp)]
  have hs0:=step (.ref pl) (.ref pl) oi e1 e2 e3
  refine wpAny_bind (wpAny_seqItems c1 c2 ?_)
  dsimp only
  have hps:i<ps.length:=by omega
  obtain⟨e,he,hev⟩:=b4 i ps[i] (List.getElem?_eq_getElem hps)
  rw[hv] at hev
  cases hev
  have hpl:((ps.map λ(p:Nat)=>rawInt p).toArray)[(i:Int).toNat]?=some (rawInt (ps[i]:Nat)):=by
   rw[Int.toNat_natCast,List.getElem?_toArray,List.getElem?_map,List.getElem?_eq_getElem hps];rfl
  rw[hpl]
  show wpAny _ _ (setNextDrawn a ((ps[i]:Nat):Int).toNat _ >>= _) _ _ _
  refine wpAny_bind (ZeT h1 h2 h3 (by rw[Int.toNat_natCast];exact he) ?_)
  refine wpAny_bind (wpAny_setField e1 e3 (by simp) ?_)
  refine wpAny_pure ⟨_,rfl,wpAny_pure (h _ ?_ (Heap.SameBut.update ..))⟩
  have ka:∀ {b:Addr} {u:Obj},b≠it->s.heap.get? b=some u->(s.heap.update it (Obj.mapFields (·.setIfInBounds 1 (rawInt ((i:Int)+1))))).get? b=some u:=λhb q=>by
   rw[Heap.get?_update_ne _ _ _ _ hb];exact q
  exact⟨o,es,ep,t,ka (Ne.symm hit) h1,h2,h3,h4,h5,.inr (.inl ⟨a1,a2,a3,ps,hs0.2,⟨op,n,ka (Ne.symm hip) c1,c2⟩,b3,b4⟩)⟩
 ·have hT:s.TypeIs (.ref it) "set_iterator" := ⟨_,e1,e2⟩
  unfold pyNext
  refine wpAny_bind (wpAny_attempt (wpAny_callSpecial?_slot (name:=Str.ofString "__next__") hT Zad (wpAny_call_entry Zad hT Zaj ?_ (Zam _))))
  unfold Builtin.«set_iterator.__next__»
  refine wpAny_bind (wpAny_pure ?_)
  refine wpAny_bind (wpAny_fieldsOf e1 e3 ?_)
  dsimp only
  refine wpAny_bind (wpAny_setEntries_of h1 h2 h3 ?_)
  rw[if_neg (by simp)]
  obtain rfl:i=0:=by omega
  have hz1:es.size=1:=by omega
  have hps:t.place.size=1:=by simp only[SetTable.fits,Bool.and_eq_true,beq_iff_eq] at h3;omega
  obtain⟨p0,hp0⟩:∃ p,t.place=#[p]:=by
   refine⟨t.place[0],?_⟩
   apply Array.ext
   ·simp[hps]
   ·intro j hj _
    have:j=0:=by omega
    subst this
    rfl
  have hs0:=step (.int sl 0) (.int ((p0+1:Nat):Int) 0) oi e1 e2 e3
  refine wpAny_bind (ZhD h1 h2 h3 h4 a1 a2 ?_)
  have hev:es[0]?.map Prod.snd=some v:=by
   rw[b3,List.getElem?_map,Array.getElem?_toList] at hv
   exact hv
  obtain⟨e,he,rfl⟩:=Option.map_eq_some_iff.mp hev
  rw[Int.toNat_natCast,b2,he,hp0]
  show wpAny _ _ (setField (.ref it) 0 (rawInt ((p0+1:Nat):Int)) >>= _) _ _ _
  refine wpAny_bind (wpAny_setField e1 e3 (by simp) ?_)
  have g1:=Heap.get?_update_self (Obj.mapFields (·.setIfInBounds 0 (rawInt ((p0+1:Nat):Int)))) e1 (Obj.isFreed_of_fields (Obj.data_mapFields e3 _))
  refine wpAny_bind (wpAny_setField g1 (Obj.data_mapFields e3 _) (by simp) ?_)
  refine wpAny_pure ⟨_,rfl,wpAny_pure (h _ ?_ ((Heap.SameBut.update ..).trans (Heap.SameBut.update ..)))⟩
  have ka:∀ {b:Addr} {u:Obj},b≠it->s.heap.get? b=some u->((s.heap.update it (Obj.mapFields (·.setIfInBounds 0 (rawInt ((p0+1:Nat):Int))))).update it (Obj.mapFields (·.setIfInBounds 1 (rawInt (((0:Nat):Int)+1))))).get? b=some u:=λhb q=>by
   rw[Heap.get?_update_ne _ _ _ _ hb,Heap.get?_update_ne _ _ _ _ hb];exact q
  refine⟨o,es,ep,t,ka (Ne.symm hit) h1,h2,h3,h4,h5,.inr (.inr ⟨a1,a2,p0+1,hs0.1,?_,b3⟩)⟩
  rw[hp0]
  simp[SetTable.below,SetTable.below.go]
theorem Zk0{it a pl:Addr}{vs:List Value}{Q:Option Value->Shared->Prop}(hh:A.handled=none)(x:WkT w it a pl vs vs.length s.heap)
  (h:∀ h',Heap.ExtBut it s.heap h'->Q none { s with heap:=h' }):wpAny (model P w) A (pyNext (.ref it)) Q E s:=by
 obtain⟨o,es,ep,t,h1,h2,h3,h4,h5,r⟩:=x
 rcases r with⟨a1,⟨oi,e1,e2,e3⟩,a3⟩|⟨a1,a2,a3,ps,⟨oi,e1,e2,e3⟩,⟨op,n,c1,c2⟩,b3,b4⟩|⟨a1,a2,sl,⟨oi,e1,e2,e3⟩,b2,b3⟩
 ·have hT:s.TypeIs (.ref it) "set_iterator" := ⟨_,e1,e2⟩
  unfold pyNext
  refine wpAny_bind (wpAny_attempt (wpAny_callSpecial?_slot (name:=Str.ofString "__next__") hT Zad (wpAny_call_entry Zad hT Zaj ?_ (Zam _))))
  unfold Builtin.«set_iterator.__next__»
  refine wpAny_bind (wpAny_pure ?_)
  refine wpAny_bind (wpAny_fieldsOf e1 e3 ?_)
  dsimp only
  refine wpAny_bind (wpAny_setEntries_of h1 h2 h3 ?_)
  rw[if_neg (by simp)]
  refine wpAny_bind (Zdn h1 h2 h3 a1 ?_)
  have hl:(pickOrder (w.params.setOrder a ep) es).size=vs.length:=by rw[a3,List.length_map,Array.length_toList]
  rw[show ((ep:Nat):Int).toNat=ep from Int.toNat_natCast _,show ((vs.length:Nat):Int).toNat=vs.length from Int.toNat_natCast _,Array.getElem?_eq_none (by omega)]
  dsimp only[Option.map_none]
  refine wpAny_bind (wpAny_setField e1 e3 (by simp) ?_)
  refine wpAny_bind ?_
  simp only[newExc,newTuple]
  refine wpAny_bind (wpAny_newObj_type ?_ (by size_fits))
  refine wpAny_bind (m:=firstArgMember _ _) (wpAny_of_eq (a:=Value.none) (by first|rfl|(simp only[firstArgMember];rfl)) ?_)
  refine wpAny_newObj_type ?_ (by size_fits)
  simp only[raiseNew]
  refine wpAny_bind (wpAny_handled ?_)
  rw[show A.in1.handled=none from hh]
  refine wpAny_bind (wpAny_pure (wpAny_throw ?_))
  refine wpAny_bind (wpAny_isInstance (T := "StopIteration") (b:=true) ⟨_,Heap.get?_push_size _ rfl,rfl⟩ isSubtype_stop ?_)
  exact wpAny_pure (h _ (((Heap.SameBut.update ..).extBut.push _).push _))
 ·have hT:s.TypeIs (.ref it) "set_iterator" := ⟨_,e1,e2⟩
  unfold pyNext
  refine wpAny_bind (wpAny_attempt (wpAny_callSpecial?_slot (name:=Str.ofString "__next__") hT Zad (wpAny_call_entry Zad hT Zaj ?_ (Zam _))))
  unfold Builtin.«set_iterator.__next__»
  refine wpAny_bind (wpAny_pure ?_)
  refine wpAny_bind (wpAny_fieldsOf e1 e3 ?_)
  dsimp only
  refine wpAny_bind (wpAny_setEntries_of h1 h2 h3 ?_)
  rw[if_neg (by simp)]
  refine wpAny_bind (wpAny_seqItems c1 c2 ?_)
  dsimp only
  rw[show ((vs.length:Nat):Int).toNat=vs.length from Int.toNat_natCast _,show ((ps.map λ(p:Nat)=>rawInt p).toArray)[vs.length]?=none by rw[List.getElem?_toArray,List.getElem?_eq_none (by rw[List.length_map];omega)]]
  dsimp only
  refine wpAny_bind (wpAny_setField e1 e3 (by simp) ?_)
  have g1:=Heap.get?_update_self (Obj.mapFields (·.setIfInBounds 0 (rawInt 0))) e1 (Obj.isFreed_of_fields (Obj.data_mapFields e3 _))
  refine wpAny_bind (wpAny_setField g1 (Obj.data_mapFields e3 _) (by simp) ?_)
  refine wpAny_bind ?_
  simp only[newExc,newTuple]
  refine wpAny_bind (wpAny_newObj_type ?_ (by size_fits))
  refine wpAny_bind (m:=firstArgMember _ _) (wpAny_of_eq (a:=Value.none) (by first|rfl|(simp only[firstArgMember];rfl)) ?_)
  refine wpAny_newObj_type ?_ (by size_fits)
  simp only[raiseNew]
  refine wpAny_bind (wpAny_handled ?_)
  rw[show A.in1.handled=none from hh]
  refine wpAny_bind (wpAny_pure (wpAny_throw ?_))
  refine wpAny_bind (wpAny_isInstance (T := "StopIteration") (b:=true) ⟨_,Heap.get?_push_size _ rfl,rfl⟩ isSubtype_stop ?_)
  exact wpAny_pure (h _ ((((Heap.SameBut.update ..).trans (Heap.SameBut.update ..)).extBut.push _).push _))
 ·have hT:s.TypeIs (.ref it) "set_iterator" := ⟨_,e1,e2⟩
  unfold pyNext
  refine wpAny_bind (wpAny_attempt (wpAny_callSpecial?_slot (name:=Str.ofString "__next__") hT Zad (wpAny_call_entry Zad hT Zaj ?_ (Zam _))))
  unfold Builtin.«set_iterator.__next__»
  refine wpAny_bind (wpAny_pure ?_)
  refine wpAny_bind (wpAny_fieldsOf e1 e3 ?_)
  dsimp only
  refine wpAny_bind (wpAny_setEntries_of h1 h2 h3 ?_)
  rw[if_neg (by simp)]
  refine wpAny_bind (ZhD h1 h2 h3 h4 a1 a2 ?_)
  rw[Int.toNat_natCast,b2,Array.getElem?_eq_none (show es.size<=vs.length by omega)]
  dsimp only
  refine wpAny_bind (wpAny_setField e1 e3 (by simp) ?_)
  refine wpAny_bind ?_
  simp only[newExc,newTuple]
  refine wpAny_bind (wpAny_newObj_type ?_ (by size_fits))
  refine wpAny_bind (m:=firstArgMember _ _) (wpAny_of_eq (a:=Value.none) (by first|rfl|(simp only[firstArgMember];rfl)) ?_)
  refine wpAny_newObj_type ?_ (by size_fits)
  simp only[raiseNew]
  refine wpAny_bind (wpAny_handled ?_)
  rw[show A.in1.handled=none from hh]
  refine wpAny_bind (wpAny_pure (wpAny_throw ?_))
  refine wpAny_bind (wpAny_isInstance (T := "StopIteration") (b:=true) ⟨_,Heap.get?_push_size _ rfl,rfl⟩ isSubtype_stop ?_)
  exact wpAny_pure (h _ (((Heap.SameBut.update ..).extBut.push _).push _))
theorem Zk1{it a pl:Addr}{vs:List Value}{i:Nat}{Q:Value->Shared->Prop}(x:WkT w it a pl vs i s.heap)(h:Q (.ref it) s):wpAny (model P w) A (pyIter (.ref it)) Q E s:=by
 have hT:s.TypeIs (.ref it) "set_iterator" := by
  obtain⟨o,es,ep,t,h1,h2,h3,h4,h5,r⟩:=x
  rcases r with⟨_,⟨oi,e1,e2,_⟩,_⟩|⟨_,_,_,ps,⟨oi,e1,e2,_⟩,_⟩|⟨_,_,sl,⟨oi,e1,e2,_⟩,_⟩
  ·exact⟨oi,e1,e2⟩
  ·exact⟨oi,e1,e2⟩
  ·exact⟨oi,e1,e2⟩
 refine wpAny_pyIter_slot hT Zbb (wpAny_call_entry Zbb hT Zcd ?_ (Zco _))
 show wpAny _ _ (ret (.ref it)) _ _ s
 exact wpAny_pure ⟨_,rfl, "set_iterator",_,hT,Zad.lookup,h⟩
theorem Zge{it a pl:Addr}{vs:List Value}(hh:A.handled=none)(hit:it≠a)(hip:it≠pl):WalksS P w A it [it,a,pl] [it] Eq vs.length (λi v=>vs[i]?=some v) (λi s=>WkT w it a pl vs i s.heap) where
 sub:=λb hb=>by rw[List.mem_singleton.mp hb];simp
 grefl:=λ_=>rfl
 gtrans:=λ_ _ _=>Eq.trans
 frame:=λi s h' tk st _ k=>WkT.keep st k
 item:=λi s Q E hi st hQ=>ZkZ hit hip st (List.getElem?_eq_getElem hi) λh' st' sb=>hQ _ _ (List.getElem?_eq_getElem hi) st' ⟨λb o hb e=>(sb.2 b (λz=>hb (by simp[z]))).trans e,rfl,rfl,rfl,Nat.le_refl _⟩
 done:=λs Q E st hQ=>Zk0 hh st λh' eb=>hQ _ ⟨λb o hb e=>eb b o (λz=>hb (by simp[z])) e,rfl,rfl,rfl,Nat.le_refl _⟩
 self:=λi s Q E st hQ=>Zk1 st hQ
theorem Zk2{a:Addr}{zs:List Str}{Q:Value->Shared->Prop}(hS:SetT P w s.heap a zs)
  (h:∀ (it pl:Addr) (vs:List Value) (zs':List Str) (h':Heap) (d:Drawn),it≠a->it≠pl->s.heap.objs.size<=it->(pl=a\/s.heap.objs.size<=pl)->StrsAre vs zs'->zs'.Perm zs->WkT w it a pl vs 0 h'->(∀ b o,s.heap.get? b=some o->h'.get? b=some o)->Q (.ref it) { s with heap:=h',drawn:=d }) :
  wpAny (model P w) A (pyIter (.ref a)) Q E s:=by
 obtain⟨o,es,ep,t,h1,hex,h2,hel,hst,hnd,hb,h3,h4,hp⟩:=hS
 have hT:s.TypeIs (.ref a) "set" := ⟨o,h1,hex.1⟩
 have hlt:=Heap.lt_size h1
 refine wpAny_pyIter_slot hT PySem.F.slot_set_iter (wpAny_call_entry PySem.F.slot_set_iter hT Zcn ?_ (PySem.F.args_set_iter_1 _))
 unfold Builtin.«frozenset.__iter__»
 refine wpAny_bind (m:=Builtin.Frozenset.slot0 _ _) (wpAny_bind (wpAny_pure (wpAny_pure ?_)))
 refine wpAny_bind (wpAny_bind (wpAny_setEntries_of h1 h2 h3 (wpAny_pure ?_)))
 refine wpAny_bind ?_
 unfold setDrawn
 refine wpAny_bind (wpAny_setState_of h1 h2 h3 ?_)
 dsimp only
 refine wpAny_bind (setsBy (wpAny_pure ?_))
 have fin:∀ (first:Value) (s1:Shared) (R:PySem.Fin->Shared->Prop) (EE:Value->Shared->Prop),s1.heap.get? a=some o->R (.done (.ret (.ref s1.heap.objs.size))) { s1 with heap:=s1.heap.push { cls:=.type "set_iterator",data:=.fields #[first,rawInt 0,.ref a,rawInt es.size,rawInt ep] } } ->
   wpAny (model P w) A.in1 (do
    let __do_lift <- setEpoch a
    let __do_lift <- newFields "set_iterator" [first,rawInt 0,Value.ref a,rawInt es.size,rawInt __do_lift]
    ret __do_lift) R EE s1:=λfirst s1 R EE q hR=>by
  refine wpAny_bind (wpAny_setEpoch_of q h2 h3 ?_)
  refine wpAny_bind ?_
  unfold newFields
  exact wpAny_newObj_type (wpAny_pure hR) (by size_fits)
 show wpAny _ _ (if (!byT w && (!t.plain && decide (es.size > 1)))=true then _ else _) _ _ _
 have itAt:∀ (h0:Heap) (first:Value) ,ItAt (h0.push { cls:=.type "set_iterator",data:=.fields #[first,rawInt 0,.ref a,rawInt es.size,rawInt ep] }) h0.objs.size first 0 a es.size ep:=λh0 first=>⟨_,Heap.get?_push_size _ rfl,rfl,rfl⟩
 refine wpAny_ite_split (λhd=>?_) λhd=>?_
 ·simp only[Bool.and_eq_true,Bool.not_eq_true',decide_eq_true_eq] at hd
  refine wpAny_bind (ZgN _ _ _ _ (List.length_range ..) λps d hps=>?_)
  refine wpAny_bind (wpAny_newTuple ?_ (by rw[List.length_map,hps.length_eq,List.length_range];exact fits_of_scanBound hb))
  refine fin _ _ _ _ (Heap.get?_push_of_some _ h1) ⟨_,rfl, "set_iterator",_,⟨_,Heap.get?_push_size _ rfl,rfl⟩,Zad.lookup,?_⟩
  have hlp:ps.length=es.size:=by rw[hps.length_eq,List.length_range]
  have hvr:(List.range es.size).map (λp=>(es[p]?.map Prod.snd).getD Value.none)=es.toList.map Prod.snd:=by
   refine List.ext_getElem (by simp) λj g1 g2=>?_
   have hj:j<es.size:=by simpa using g1
   simp[Array.getElem?_eq_getElem hj]
  have hpp:(ps.map λp=>(es[p]?.map Prod.snd).getD Value.none).Perm (es.toList.map Prod.snd):=by rw[<- hvr];exact hps.map _
  obtain⟨zs',hs',hp'⟩:=Zdk hpp hst
  have hne:(s.heap.push { cls:=.type "tuple",data:=.seq (ps.map λ(i:Nat)=>rawInt i).toArray }).objs.size=s.heap.objs.size+1:=Heap.size_push ..
  have:=h (s.heap.push { cls:=.type "tuple",data:=.seq (ps.map λ(i:Nat)=>rawInt i).toArray }).objs.size s.heap.objs.size (ps.map λp=>(es[p]?.map Prod.snd).getD Value.none) zs' _ d (by rw[hne];exact Nat.ne_of_gt (Nat.lt_succ_of_lt hlt)) (by rw[hne];exact Nat.ne_of_gt (Nat.lt_succ_self _)) (by rw[hne];exact Nat.le_succ _) (.inr (Nat.le_refl _)) hs' hp'
   ⟨o,es,ep,t,Heap.get?_push_of_some _ (Heap.get?_push_of_some _ h1),h2,h3,h4,by rw[List.length_map,hlp],.inr (.inl ⟨hd.1,hd.2.1,hd.2.2,ps,itAt _ _,⟨_,_,Heap.get?_push_of_some _ (Heap.get?_push_size _ rfl),rfl⟩,by rw[List.length_map],λj p hj=>?_⟩)⟩ λb u q=>Heap.get?_push_of_some _ (Heap.get?_push_of_some _ q)
  ·exact this
  ·have hp1:p<es.size:=by
    have:=hps.mem_iff.mp (List.mem_of_getElem? hj)
    exact List.mem_range.mp this
   exact⟨es[p],Array.getElem?_eq_getElem hp1,by rw[List.getElem?_map,hj];simp[Array.getElem?_eq_getElem hp1]⟩
 ·refine wpAny_bind (wpAny_pure ?_)
  refine fin _ _ _ _ h1 ⟨_,rfl, "set_iterator",_,⟨_,Heap.get?_push_size _ rfl,rfl⟩,Zad.lookup,?_⟩
  have ka:∀ b u,s.heap.get? b=some u->(s.heap.push { cls:=.type "set_iterator",data:=.fields #[rawInt 0,rawInt 0,.ref a,rawInt es.size,rawInt ep] }).get? b=some u:=λb u q=>Heap.get?_push_of_some _ q
  cases hbt:byT w with
  | true =>
   obtain⟨zs',hs',hp'⟩:=Zdk ((Zdm (w.params.setOrder a ep) es).map Prod.snd) hst
   exact h s.heap.objs.size a _ zs' _ s.drawn (Nat.ne_of_gt hlt) (Nat.ne_of_gt hlt) (Nat.le_refl _) (.inl rfl) hs' hp' ⟨o,es,ep,t,ka _ _ h1,h2,h3,h4,by rw[List.length_map,(Zdm _ _).length_eq,Array.length_toList],.inl ⟨hbt,itAt _ _,rfl⟩⟩ ka
  | false =>
   have hz:es.size<=1:=by
    refine Nat.le_of_not_lt λq=>hd ?_
    rw[hbt,hp (by omega),decide_eq_true q]
    rfl
   have hps:t.place.size=es.size:=by simp only[SetTable.fits,Bool.and_eq_true,beq_iff_eq] at h3;exact h3.1
   refine h s.heap.objs.size a _ zs _ s.drawn (Nat.ne_of_gt hlt) (Nat.ne_of_gt hlt) (Nat.le_refl _) (.inl rfl) hst (.refl _) ⟨o,es,ep,t,ka _ _ h1,h2,h3,h4,by rw[List.length_map,Array.length_toList],.inr (.inr ⟨hbt,hz,0,itAt _ _,?_,rfl⟩)⟩ ka
   generalize t.place=pl at hps
   obtain⟨l⟩:=pl
   match l,hps with
   | [],_=>rfl
   | [p],_=>simp[SetTable.below,SetTable.below.go]
   | _::_::_,q=>exact absurd hz (by rw[<- q];simp)
theorem ZhE(hT:s.TypeIs (.ref a) "set"){Q:Bool->Shared->Prop}(h:Q false s):wpAny (model P w) A (Builtin.List.listLengthHint (.ref a)) Q E s:=by
 unfold Builtin.List.listLengthHint
 refine wpAny_bind (wpAny_specialOf hT PySem.F.slot_set_len.lookup ?_)
 generalize hid:("set.__len__" : String)=id0
 wp_delta
 rw[show splitId id0=some ("set", "__len__") from by subst hid;decide +kernel]
 subst hid
 refine wpAny_bind (wpAny_isInstance (T := "set") (b:=true) hT (by rw[isSubtype_type];kernel_rfl) ?_)
 refine wpAny_ite_split (λhab=>absurd hab (by decide)) (λ_=>?_)
 refine wpAny_ite_split (λ_=>?_) (λhab=>absurd (by decide +kernel) hab)
 refine wpAny_bind (wpAny_typeOf hT ?_)
 exact wpAny_pure h
theorem ZgO{a:Addr}{zs:List Str}{R:List Value->Shared->Prop}(hh:A.handled=none)(hS:SetT P w s.heap a zs)
  (h:∀ (h':Heap) (tk:Nat) (d:Drawn) (acc:List Value) (zs':List Str),(∀ b o,s.heap.get? b=some o->h'.get? b=some o)->StrsAre acc zs'->zs'.Perm zs->R acc { s with heap:=h',toks:=tk,drawn:=d }) :
  wpAny (model P w) A (collect (.ref a)) R E s:=by
 have hb:zs.length<=sizeLine:=by
  obtain⟨o,es,ep,t,_,_,_,_,hst,_,hb,_⟩:=hS
  have:=ZbZ hst
  rw[List.length_map,Array.length_toList] at this
  rw[<- this];exact fits_of_scanBound hb
 unfold collect
 refine wpAny_bind (wpAny_runValue (codeAny_builtin entry_proto_collect' ?_))
 rw[Around.under_plainId PySem.F.plain_proto_collect _]
 show wpAny _ A.in1 (newList [] >>= λl=>again (.builtin "list.__iadd__" ⟨[l,.ref a],[]⟩)) _ _ s
 refine wpAny_bind (wpAny_newObj_type ?_)
 refine wpAny_pure ⟨plainId_quiet PySem.F.plain_list_iadd _,codeAny_builtin entry_list_iadd' ?_⟩
 rw[Around.under_plainId PySem.F.plain_list_iadd _]
 have hS₁:(s.heap.push { cls:=.type "list",data:=.seq ([]:List Value).toArray }).get? s.heap.objs.size=some { cls:=.type "list",data:=.seq #[] }:=Heap.get?_push_size _ rfl
 have hSs:SetT P w (s.heap.push { cls:=.type "list",data:=.seq ([]:List Value).toArray }) a zs:=hS.moved λo e=>Heap.get?_push_of_some _ e
 have hlt:a<s.heap.objs.size:=by obtain⟨o,_,_,_,h1,_⟩:=hS;exact Heap.lt_size h1
 have hT:∀ (s2:Shared),(∀ o,s.heap.get? a=some o->s2.heap.get? a=some o)->s2.TypeIs (.ref a) "set" := λs2 k=>by obtain⟨o,_,_,_,h1,hex,_⟩:=hS;exact⟨o,k o h1,hex.1⟩
 show wpAny _ A.in1 (Builtin.List.listExtendWith (.ref s.heap.objs.size) (.ref a) (.ref s.heap.objs.size)) _ _ _
 unfold Builtin.List.listExtendWith
 refine wpAny_bind (wpAny_typeOf (T := "set") (hT _ λo e=>Heap.get?_push_of_some _ e) ?_)
 have h1:Builtin.List.listSameRef (.ref s.heap.objs.size) (.ref a)=false:=by simp[Builtin.List.listSameRef,Nat.ne_of_gt hlt]
 have h2:(Value.type "set" == Value.type "list")=false:=by decide
 have h3:(Value.type "set" == Value.type "tuple")=false:=by decide
 simp only[h1,h2,h3,Bool.or_false,Bool.false_eq_true,if_false]
 refine wpAny_bind (Zk2 hSs λit pl vs zs' h' d hit hip hge hpl hst hpm wk hk=>?_)
 refine wpAny_bind (wpAny_holding (ZhE (hT _ λo e=>hk _ _ (Heap.get?_push_of_some _ e)) ?_))
 have hsz:(s.heap.push { cls:=.type "list",data:=.seq ([]:List Value).toArray }).objs.size=s.heap.objs.size+1:=Heap.size_push ..
 have hSi:s.heap.objs.size≠it:=λz=>by have h0:(s.heap.push { cls:=.type "list",data:=.seq ([]:List Value).toArray }).objs.size<=it:=hge;rw[hsz,<- z] at h0;exact absurd h0 (Nat.not_succ_le_self _)
 have hSp:s.heap.objs.size≠pl:=λz=>by
  rcases hpl with e|e
  ·exact absurd hlt (by rw[<- e,<- z];exact Nat.lt_irrefl _)
  ·have h0:(s.heap.push { cls:=.type "list",data:=.seq ([]:List Value).toArray }).objs.size<=pl:=e
   rw[hsz,<- z] at h0;exact absurd h0 (Nat.not_succ_le_self _)
 have hSf:s.heap.objs.size∉[it,a,pl]:=by simp only[List.mem_cons,List.not_mem_nil,or_false,not_or];exact⟨hSi,Nat.ne_of_gt hlt,hSp⟩
 have hvl:vs.length<=sizeLine:=by rw[ZbZ hst,hpm.length_eq];exact hb
 have hS1:h'.get? s.heap.objs.size=some { cls:=.type "list",data:=.seq #[] }:=hk _ _ hS₁
 have hold:∀ b o,s.heap.get? b=some o->h'.get? b=some o:=λb o e=>hk _ _ (Heap.get?_push_of_some _ e)
 have itn:s.heap.get? it=none:=Heap.get?_none_of_le (Nat.le_trans (Nat.le_succ _) (by show s.heap.objs.size+1<=it;rw[<- hsz];exact hge))
 have last:∀ (s':Shared) (acc':Array Value) (c':Nat) (h2:Heap) ,(∀ b o,b≠s.heap.objs.size->h'.get? b=some o->h2.get? b=some o)->Moved (s.heap.objs.size::[it]) Eq { s with heap:=h2,drawn:=d } s'->s'.heap.get? s.heap.objs.size=some { cls:=.type "list",dict:=none,data:=.seq acc' c',slots:=#[] }->ItemsOf (λi v=>vs[i]?=some v) acc' vs.length ->
   wpAny (model P w) A (load s.heap.objs.size >>= λo=>match o.data with|.seq xs _=>pure xs.toList|_=>unsupported "internal:collect") R E s':=λs' acc' c' h2 k2 hm hS' hacc=>by
  refine wpAny_bind (wpAny_load hS' ?_)
  have e:acc'.toList=vs:=by
   refine List.ext_getElem? λj=>?_
   rw[Array.getElem?_toList]
   by_cases q:j<acc'.size
   ·have:=hacc.2 j acc'[j] (Array.getElem?_eq_getElem q)
    rw[Array.getElem?_eq_getElem q];exact this.symm
   ·rw[Array.getElem?_eq_none (by omega),List.getElem?_eq_none (by have:=hacc.1;omega)]
  have em:s'={ s with heap:=s'.heap,toks:=s'.toks,drawn:=d }:=by
   obtain⟨hh',g',d',t',o'⟩:=s'
   have e1:s.gens=g':=hm.gens
   have e2:d'=d:=hm.drawn
   have e3:o'=s.os:=hm.os
   subst e1 e2 e3
   rfl
  show wpAny _ _ (pure acc'.toList) _ _ _
  rw[e,em]
  exact wpAny_pure (h _ _ _ vs zs' (λb o q=>hm.heap b o (by
   simp only[List.mem_cons,List.not_mem_nil,or_false,not_or]
   exact⟨Nat.ne_of_lt (Heap.lt_size q),λz=>by rw[z,itn] at q;cases q⟩) (k2 b o (Nat.ne_of_lt (Heap.lt_size q)) (hold b o q))) hst hpm)
 have hh1:A.in1.handled=none:=hh
 refine wpAny_ite_split (λ_=>?_) λ_=>?_
 ·refine wpAny_bind (wpAny_rule ?_)
  refine wpAny_bind ?_
  show wpAny _ _ (updateSeq s.heap.objs.size (·.push .none) >>= λ_=>updateSeq s.heap.objs.size (·.pop)) _ _ _
  refine wpAny_bind (wpAny_updateSeq hS1 rfl ?_)
  have hS₂:=Heap.get?_update_self (Obj.mapSeq (·.push Value.none)) hS1 rfl
  refine wpAny_updateSeq (hz:=by seq_fits) hS₂ rfl ?_
  have hS₃:=Heap.get?_update_self (Obj.mapSeq (·.pop)) hS₂ rfl
  have k3:∀ b o,b≠s.heap.objs.size->h'.get? b=some o->((h'.update s.heap.objs.size (Obj.mapSeq (·.push Value.none))).update s.heap.objs.size (Obj.mapSeq (·.pop))).get? b=some o:=λb o hb e =>
   (Heap.get?_update_other _ _ (Ne.symm hb)).trans ((Heap.get?_update_other _ _ (Ne.symm hb)).trans e)
  refine wpAny_pure ⟨plainId_quiet PySem.F.plain_extend_loop _,codeAny_extend_loopS (Zge hh1 hit hip) hvl s.heap.objs.size hSf _ vs.length 0 _ #[] _ rfl (Nat.zero_le _) (wk.keep λb hb o e=>k3 b o (λz=>hSf (z▸hb)) e) hS₃ (ItemsOf.nil _) λs' acc' c' hm hS' hacc=>?_⟩
  exact last s' acc' c' _ k3 hm hS' hacc
 ·refine wpAny_pure ⟨plainId_quiet PySem.F.plain_extend_loop _,codeAny_extend_loopS (Zge hh1 hit hip) hvl s.heap.objs.size hSf _ vs.length 0 _ #[] _ rfl (Nat.zero_le _) wk hS1 (ItemsOf.nil _) λs' acc' c' hm hS' hacc=>?_⟩
  exact last s' acc' c' _ (λ_ _ _ e=>e) hm hS' hacc
end
end L2
end
section
namespace L2
open PySem PySem.Spec PyProof.Rows PySem.Calls
theorem Inv.keptD{X:Cx}{pins:List (Addr×Obj)}{σ:St}{H:Hp}{s:Shared}{h':Heap}{t':Nat}{d:Drawn}(I:Inv X pins σ H s)(k:∀ b u,s.heap.get? b=some u->h'.get? b=some u):Inv X pins σ H { s with heap:=h',toks:=t',drawn:=d } :=
 let J:=I.kept (t':=t') k
 ⟨J.ok,J.os,J.bare,J.base,J.loc,J.cell,J.free,J.freeC,J.pin,J.hok,J.len⟩
def hST(P:Program)(w:World)(p:Addr)(zs:List Str):HO:=.ext λh=>SetT P w h p zs
theorem Zoi{P:Program}{w:World}{H:Hp}{h:Heap}{p:Addr}{zs:List Str}(x:SetT P w h p zs):ObjOk P w H h p (hST P w p zs) :=
 ⟨x,let ⟨o,_,_,_,q,_⟩:=x;⟨o,q⟩,λh1 h2 y k=>y.moved k⟩
theorem valsS:∀ {zs:List Str} {vs:List Value},Vals (zs.map V.str) vs->StrsAre vs zs
 | [],_,.nil=>.nil
 | z::zs,_,.cons r t=>by
  obtain⟨t',rfl⟩:=r
  exact .cons z t' (valsS t)
theorem Zjt{X:Cx}{pins:List (Addr×Obj)}{σ:St}{H:Hp}{s:Shared}{Q:VK}{E:Value->Shared->Prop}{acc:List Value}{zs:List Str}{h':Heap}{tk:Nat}{d:Drawn}(I1:Inv X pins σ H { s with heap:=h',toks:=tk,drawn:=d })(hS:StrsAre acc zs)(h64:zs.length<64)
  (q:∀ p (ys:List Str),H p=none->ys.Perm zs->sortedS ys=true->Q (.ref p) (upd H p (.lst (ys.map V.str)))) :
  wpAny (model X.prog X.w) X.A.in1 (do
   let l <- newList acc
   let _ <- holding [l] (call (.builtin "list.sort") [l] [])
   ret l) (λfin s'=>∃ v,fin=.done (.ret v)/\EP X pins σ Q v s') E { s with heap:=h',toks:=tk,drawn:=d }:=by
 have hl:acc.length=zs.length:=ZbZ hS
 refine wpAny_bind (wpAny_newList ?_ (by rw[hl,sizeLine_eq];omega))
 have hoL:(h'.push (seqObj "list" acc.toArray 0)).get? h'.objs.size=some (seqObj "list" acc.toArray 0):=Heap.get?_push_size _ rfl
 show wpAny _ _ _ _ _ { s with heap:=h'.push (seqObj "list" acc.toArray 0),toks:=tk,drawn:=d }
 refine wpAny_bind (wpAny_holding (wpAny_call_entry slot_list_sort ⟨_,hoL,rfl⟩ entry_list_sort (list_sort_treeK strKind_oneLt hoL hS.keysOf (λv₁ v₂ rest e=>keyKind_strs (by rw[<- e];exact hS)) (by rw[hl];exact h64) λst' a1 a2=>⟨_,rfl,?_⟩) (args_list_sort _)))
 obtain⟨ss,h1,h2,h3⟩:=sorted_out_str hS a1 a2
 obtain⟨ee,he⟩:=sortedHeap_at (vs:=acc) (out:=(arrOf st').map (·.2)) hoL
 refine wpAny_pure ⟨_,rfl,.ref h'.objs.size,_,I1.laid (a:=h'.objs.size) (o:=.lst (ss.map V.str)) (t':=tk) (λb o eb=>?_) (Nat.le_refl _) ⟨?_,_,ee,strsV h1,by rw[Array.toArray_toList];exact he⟩,rfl,q _ _ (I1.hok.fresh (Nat.le_refl _)) h2 h3⟩
 ·have eb:h'.get? b=some o:=eb
  have hb:=Heap.lt_size eb
  rw[sortedHeap_old (Nat.ne_of_lt hb) (by rw[size_push'];exact Nat.lt_succ_of_lt hb)]
  exact Heap.get?_push_of_some _ eb
 ·rw[List.length_map,h2.length_eq]
  exact Nat.le_trans (Nat.le_of_lt h64) (by rw[sizeLine_eq];decide)
def rSortT(P:Program)(w:World):List V->Hp->VK->Prop:=λxs H Q=>∃ (a:Addr) (zs:List Str),xs=[.ref a]/\H a=some (hST P w a zs)/\zs.length<64/\∀ p (ys:List Str),H p=none->ys.Perm zs->sortedS ys=true->Q (.ref p) (upd H p (.lst (ys.map V.str)))
theorem Zio{X:Cx}{P:Program}{w:World}(hP:X.prog=P)(hw:X.w=w)(hc:X.calm=true):CallR X (.builtin "sorted") (rSortT P w):=by
 subst hP hw
 intro pins s σ H xs us Q I rv h
 obtain⟨a,zs,rfl,e,h64,q⟩:=h
 obtain⟨u,rfl,ru⟩:=rv.one
 cases ru
 have hT:SetT X.prog X.w s.heap a zs:=(I.hok _ _ e).1
 refine call_function_entry kind_sorted plain_sorted entry_sorted (args_sorted1 _) ?_
 unfold Builtin.«sorted»
 refine wpAny_bind (m:=checkCount "sorted" 1 1 _) (wpAny_pure ?_)
 refine wpAny_bind (ZgO (A:=X.A.in1) (I.ok.hd hc) hT λh' tk d acc zs' hk hS hp=>?_)
 have I1:Inv X pins σ H { s with heap:=h',toks:=tk,drawn:=d }:=I.keptD hk
 exact Zjt I1 hS (by rw[hp.length_eq];exact h64) λp ys hn h1 h2=>q p ys hn (h1.trans hp) h2
end L2
namespace VL
open PySem PySem.Spec PyProof.Rows L2
variable [Tabs]
section
variable {K:W.Frag}{E:FK}{X:Exc->Sl->Prop}{ρ:Sl}{Q:TV->Prop}{P:Program}{w:World}
def SetTAt(P:Program)(w:World)(zs:List Str):V->Hp->Prop:=λv H=>∃ p,v=.ref p/\H p=some (hST P w p zs)
theorem SR.pushObj{H0 H:Hp}{σ:L2.St}{ts:List V}{as:List TV}{l:Addr}{o:HO}{φ:V->Hp->Prop}(h:SR K H0 σ ρ ts as H)(hl:H l=none)(hφ:∀ G:Hp,G l=some o->φ (.ref l) G)(hs:∀ G1 G2:Hp,Same G1 G2->φ (.ref l) G1->φ (.ref l) G2):SR K H0 σ ρ (.ref l::ts) (.av (.obj φ)::as) (upd H l o):=by
 obtain⟨⟨p,q,h1,h2,h3,h4⟩,e⟩:=h
 have zl:p l+q l=0:=by
  rcases Nat.eq_zero_or_pos (p l+q l) with w|w
  ·exact w
  ·obtain⟨_,w,_⟩:=SR.lsts h1 h2 l w;rw[hl] at w;cases w
 have s2:Same H (upd H l o):=Zba hl
 have m:Same (VL.hid H p q) (VL.hid (upd H l o) p q):=ZcC s2
 refine⟨⟨p,q,h1.mono m (λb o _=>s2 b o),.cons (.av (.obj (p:=λ_=>0) (hφ _ ?_) hs λ_=>rfl)) (h2.mono m s2) (λb=>by simp),h3,h4⟩,e.trans s2⟩
 unfold VL.hid
 rw[if_pos zl]
 exact Zak
theorem Zk3{zs:List Str}(hz:zs.length<64)(q:∀ ys:List Str,ys.Perm zs->sortedS ys=true->Q (.av (.own (ys.map λz=>.d (.str z))))):Bi K E X (rSortT P w) [.av (.obj (SetTAt P w zs))] Q:=λH0 σ ρ ts as H vs QV s hl _ kk=>by
 obtain⟨v,rfl,s⟩:=ZbV s hl
 have:∃ p,v=.ref p/\H p=some (hST P w p zs):=by
  obtain⟨⟨p,q,h1,h2,h3,h4⟩,e⟩:=s
  cases h2 with
  | cons r _ _ =>
   cases r with
   | av r =>
    cases r with
    | obj f _ _ =>
     obtain⟨p',e1,e2⟩:=f
     exact⟨p',e1,Zbg _ _ e2⟩
 obtain⟨p,rfl,hp⟩:=this
 exact⟨p,zs,rfl,hp,hz,λp' ys hn h1 h2=>kk _ (q ys h1 h2) _ _ (((SR.pop s).strs ys).new (by simp) hn)⟩
end
end VL
end
section
namespace L2
open PySem PySem.Spec PyProof.Rows
def Ris(xs:Array Nat):Prop:=∀ a b (ha:a<xs.size) (hb:b<xs.size),a<b->xs[a] < xs[b]
theorem Zfn{xs:Array Nat}{j m:Nat}(hm:m<=xs.size)(h1:∀ a (ha:a<xs.size),a<m->xs[a] < j)(h2:∀ a (ha:a<xs.size),m<=a->j<=xs[a]):∀ (fuel lo hi:Nat),lo<=m->m<=hi->hi<=xs.size->hi-lo<=fuel->SetTable.below.go xs j fuel lo hi=m
 | 0,lo,hi,a,b,c,d=>by
  have:lo=m:=by omega
  rw[SetTable.below.go,this]
 | fuel+1,lo,hi,a,b,c,d=>by
  rw[SetTable.below.go]
  by_cases q:lo<hi
  ·rw[if_pos q]
   dsimp only
   have hmid:(lo+hi) / 2<xs.size:=by omega
   rw[Array.getD_eq_getD_getElem?,Array.getElem?_eq_getElem hmid,Option.getD_some]
   by_cases z:(lo+hi) / 2<m
   ·rw[if_pos (h1 _ hmid z)]
    exact Zfn hm h1 h2 fuel _ _ (by omega) b c (by omega)
   ·have:=h2 _ hmid (by omega)
    rw[if_neg (by omega)]
    exact Zfn hm h1 h2 fuel _ _ a (by omega) (by omega) (by omega)
  ·rw[if_neg q];omega
theorem Zfo{xs:Array Nat}{j m:Nat}(hm:m<=xs.size)(h1:∀ a (ha:a<xs.size),a<m->xs[a] < j)(h2:∀ a (ha:a<xs.size),m<=a->j<=xs[a]):SetTable.below xs j=m:=by
 unfold SetTable.below
 exact Zfn hm h1 h2 _ _ _ (Nat.zero_le _) hm (Nat.le_refl _) (by omega)
theorem ZmI{xs:Array Nat}:SetTable.below xs 0=0:=Zfo (Nat.zero_le _) (λ_ _ h=>by omega) λ_ _ _=>Nat.zero_le _
theorem Zk4{xs:Array Nat}(R:Ris xs){i:Nat}(hi:i<xs.size):SetTable.below xs (xs[i]+1)=i+1:=by
 refine Zfo (by omega) (λa ha q=>?_) λa ha q=>?_
 ·by_cases z:a=i
  ·subst z;omega
  ·have:=R a i ha hi (by omega);omega
 ·have:=R i a hi ha (by omega);omega
theorem Zk5{xs:Array Nat}(R:Ris xs)(j:Nat):∃ m,SetTable.below xs j=m/\m<=xs.size/\(∀ a (ha:a<xs.size),a<m->xs[a] < j)/\∀ a (ha:a<xs.size),m<=a->j<=xs[a]:=by
 obtain⟨m,hm,h1,h2⟩:∃ m,m<=xs.size/\(∀ a (ha:a<xs.size),a<m->xs[a] < j)/\∀ a (ha:a<xs.size),m<=a->j<=xs[a]:=by
  have key:∀ n,n<=xs.size->∃ m,m<=n/\(∀ a (ha:a<xs.size),a<m->xs[a] < j)/\∀ a (ha:a<xs.size),m<=a->a<n->j<=xs[a]:=by
   intro n
   induction n with
   | zero=>intro _;exact⟨0,Nat.le_refl _,λ_ _ h=>by omega,λ_ _ _ h=>by omega⟩
   | succ n ih =>
    intro hn
    obtain⟨m,a1,a2,a3⟩:=ih (by omega)
    by_cases q:m=n
    ·subst q
     by_cases z:xs[m] < j
     ·refine⟨m+1,Nat.le_refl _,λa ha h=>?_,λa ha h1 h2=>by omega⟩
      by_cases y:a=m
      ·subst y;exact z
      ·exact a2 a ha (by omega)
     ·refine⟨m,by omega,a2,λa ha h1 h2=>?_⟩
      have:a=m:=by omega
      subst this;omega
    ·refine⟨m,by omega,a2,λa ha h1 h2=>?_⟩
     by_cases y:a=n
     ·subst y
      have h3:=a3 m (by omega) (Nat.le_refl _) (by omega)
      have:=R m a (by omega) ha (by omega)
      omega
     ·exact a3 a ha h1 (by omega)
  obtain⟨m,b1,b2,b3⟩:=key xs.size (Nat.le_refl _)
  exact⟨m,b1,b2,λa ha h=>b3 a ha h ha⟩
 exact⟨m,Zfo hm h1 h2,hm,h1,h2⟩
def RisL(xs:Array Nat):Prop:=xs.toList.Pairwise (· < ·)
theorem RisL.ix{xs:Array Nat}(h:RisL xs):Ris xs:=λa b ha hb q=>by
 have:=List.pairwise_iff_getElem.mp h a b (by simpa using ha) (by simpa using hb) q
 simpa using this
theorem ZmJ{xs:Array Nat}(R:RisL xs){j:Nat}(hf:xs[SetTable.below xs j]?≠some j):RisL (SetTable.insertAt xs (SetTable.below xs j) j):=by
 obtain⟨m,e,hm,h1,h2⟩:=Zk5 R.ix j
 rw[e] at hf ⊢
 have h2':∀ a (ha:a<xs.size),m<=a->j<xs[a]:=λa ha q=>by
  have h3:=h2 a ha q
  by_cases z:a=m
  ·subst z
   rw[Array.getElem?_eq_getElem ha] at hf
   have:xs[a]≠j:=λy=>hf (by rw[y])
   omega
  ·have h4:=h2 m (by omega) (Nat.le_refl _)
   have:=R.ix m a (by omega) ha (by omega)
   omega
 have ht:∀ x∈xs.toList.take m,x<j:=λx hx=>by
  obtain⟨a,ha,rfl⟩:=List.getElem_of_mem hx
  rw[List.getElem_take]
  rw[List.length_take] at ha
  have:=h1 a (by simpa using (show a<xs.toList.length by omega)) (by omega)
  simpa using this
 have hd:∀ x∈xs.toList.drop m,j<x:=λx hx=>by
  obtain⟨a,ha,rfl⟩:=List.getElem_of_mem hx
  rw[List.getElem_drop]
  rw[List.length_drop] at ha
  have:=h2' (m+a) (by simpa using (show m+a<xs.toList.length by omega)) (by omega)
  simpa using this
 unfold RisL
 rw[SetTable.toList_insertAt]
 refine List.pairwise_append.mpr ⟨R.sublist (List.take_sublist ..),List.pairwise_cons.mpr ⟨hd,R.sublist (List.drop_sublist ..)⟩,λa ha b hb=>?_⟩
 rcases List.mem_cons.mp hb with e|e
 ·rw[e];exact ht a ha
 ·exact Nat.lt_trans (ht a ha) (hd b e)
theorem ZeU{t:SetTable}{hh:Nat->Int}{h:Int}{j:Nat}{d:Option Nat}(hd:t.dummies=#[]):∀ (fuel:Nat) (p:SetTable.Probe),p.dummy=none->SetTable.probe.go t hh h fuel p=some (.empty j d)->t.place[SetTable.below t.place j]?≠some j/\d=none
 | 0,p,_,e=>by cases e
 | fuel+1,p,hp,e=>by
  rw[SetTable.probe.go] at e
  have adv:∀ q:SetTable.Probe,(t.advance q).dummy=q.dummy:=λq=>by
   unfold SetTable.advance
   split
   ·rfl
   ·rfl
  split at e
  ·rename_i hs
   cases e
   refine⟨λz=>?_,hp⟩
   unfold SetTable.slot at hs
   dsimp only at hs
   rw[if_pos (by rw[z];simp)] at hs
   cases hs
  ·rename_i hs
   exfalso
   unfold SetTable.slot at hs
   dsimp only at hs
   split at hs
   ·cases hs
   ·rw[hd] at hs
    simp[SetTable.has,SetTable.below,SetTable.below.go] at hs
  ·split at e
   ·cases e
   ·exact ZeU hd fuel _ (by rw[adv];exact hp) e
structure TabOk(t:SetTable):Prop where
 d:t.dummies=#[]
 r:RisL t.place
theorem Zju(n:Nat):RisL (Array.range n):=by
 unfold RisL
 rw[Array.toList_range]
 exact List.pairwise_lt_range
theorem TabOk.stand{t:SetTable}(n:Nat):TabOk (t.standIn n):=⟨rfl,Zju n⟩
theorem TabOk.orStand{t:SetTable}(h:TabOk t)(n:Nat):TabOk (t.orStandIn n):=by
 unfold SetTable.orStandIn
 split
 ·exact h
 ·exact .stand n
theorem TabOk.fresh(f m:Nat)(l:Bool):TabOk (SetTable.fresh f m l):=⟨rfl,List.Pairwise.nil⟩
theorem TabOk.layNew{t:SetTable}(h:TabOk t)(es:Array (Int×Value))(k:Int)(x:Value):TabOk (layNew t es k x).2.1:=by
 unfold PySem.layNew
 split
 ·rename_i sl wd e
  refine TabOk.orStand ?_ _
  unfold SetTable.freeSlot SetTable.probe at e
  split at e
  ·rename_i j d q
   obtain⟨g1,g2⟩:=ZeU h.d _ _ rfl q
   subst g2
   cases e
   refine⟨?_,ZmJ h.r g1⟩
   show (if SetTable.has t.dummies _=true then _ else t.dummies)=#[]
   rw[h.d]
   simp[SetTable.has,SetTable.below,SetTable.below.go]
  ·cases e
 ·exact .stand _
theorem Zk6{mask finger moves:Nat}{led plain:Bool}{hs:Array Int}{t:SetTable}{o:Array Nat}(e:SetTable.laid mask finger moves led plain hs=some (t,o)):TabOk t:=by
 unfold SetTable.laid at e
 simp only[Option.bind_eq_bind,Option.bind_eq_some_iff] at e
 obtain⟨ow,_,e⟩:=e
 cases e
 refine⟨rfl,?_⟩
 show (List.map _ _).Pairwise _
 have key:∀ l:List Nat,l.Pairwise (· < ·)->((l.filterMap λj=>(ow.getD j none).map (j,·)).map Prod.fst).Pairwise (· < ·):=by
  intro l hl
  have hsub:((l.filterMap λj=>(ow.getD j none).map (j,·)).map Prod.fst).Sublist l:=by
   clear hl
   induction l with
   | nil=>exact .slnil
   | cons x l ih =>
    rw[List.filterMap_cons]
    cases q:ow.getD x none with
    | none=>exact ih.cons x
    | some y=>exact ih.cons₂ x
  exact hl.sublist hsub
 exact key _ List.pairwise_lt_range
theorem TabOk.relay{t:SetTable}(h:TabOk t)(es:Array (Int×Value))(n:Nat):TabOk (relayAll t es n).2.1:=by
 unfold relayAll
 split
 ·rename_i t' o e
  dsimp only
  split
  ·exact Zk6 e
  ·exact .stand _
 ·exact .stand _
end L2
end
section
namespace L2
open PySem PySem.Spec PyProof.Rows
abbrev iK(P:Program)(w:World):PySem.KeyKind P w Int:=PySem.intKind P w
def SetI(P:Program)(w:World)(h:Heap)(a:Addr)(zs:List Int):Prop :=
 ∃ o es ep t,h.get? a=some o/\o.ExactSet/\o.data=.set es ep t/\ElemsOf (iK P w) es.toList/\IntsAre (es.toList.map Prod.snd) zs/\zs.Nodup/\es.size<scanBound/\t.fits es.size=true/\t.led=(!byT w)/\TabOk t
theorem Zdo:∀ {vs' vs:List Value} {zs:List Int},vs'.Perm vs->IntsAre vs zs->∃ zs',IntsAre vs' zs'/\zs'.Perm zs:=by
 intro vs' vs zs p
 induction p generalizing zs with
 | nil=>intro h;exact⟨zs,h,.refl _⟩
 | cons x _ ih =>
  intro h
  cases h with
  | cons y t h =>
   obtain⟨zs',h1,h2⟩:=ih h
   exact⟨_,.cons y t h1,h2.cons _⟩
 | swap x y l =>
  intro h
  cases h with
  | cons y t h =>
   cases h with
   | cons y' t' h=>exact⟨_,.cons y' t' (.cons y t h),.swap _ _ _⟩
 | trans _ _ ih1 ih2 =>
  intro h
  obtain⟨z1,a1,a2⟩:=ih2 h
  obtain⟨z2,b1,b2⟩:=ih1 a1
  exact⟨z2,b1,b2.trans a2⟩
theorem ZhF:∀ {vs us:List Value} {zs ys:List Int},IntsAre vs zs->IntsAre us ys->IntsAre (vs++us) (zs++ys)
 | _,_,_,_,.nil,h=>h
 | _,_,_,_,.cons y t h,g=>.cons y t (ZhF h g)
theorem Zb0:∀ {vs:List Value} {zs:List Int},IntsAre vs zs->vs.length=zs.length
 | _,_,.nil=>rfl
 | _,_,.cons _ _ h=>congrArg (· + 1) (Zb0 h)
theorem Zfp{P:Program}{w:World}{z:Int}:∀ {es:List (Int×Value)} {zs:List Int},IntsAre (es.map Prod.snd) zs->(z∈zs↔∃ e∈es,(iK P w).is z e.2=true)
 | [],_,.nil=>by simp
 | e::es,zs,h=>by
  obtain⟨hh,v⟩:=e
  rw[List.map_cons] at h
  cases h with
  | cons y t h =>
   have ih:=Zfp (P:=P) (w:=w) (z:=z) h
   rw[List.mem_cons,ih]
   constructor
   ·rintro (rfl|⟨e,he,q⟩)
    ·exact⟨_,.head _,intKind_is P w _ _⟩
    ·exact⟨e,.tail _ he,q⟩
   ·rintro⟨e,he,q⟩
    rcases List.mem_cons.mp he with rfl|he
    ·exact .inl ((iK P w).inj _ _ _ q (intKind_is P w _ _))
    ·exact .inr ⟨e,he,q⟩
section
variable {P:Program}{w:World}{A:Around}{E:Value->Shared->Prop}{s:Shared}
theorem ZeV{h:Heap}{a:Addr}{o:Obj}{es:Array (Int×Value)}{ep:Nat}{t:SetTable}(ho:h.get? a=some o)(hex:o.ExactSet)(hd:o.data=.set es ep t)
  {es':Array (Int×Value)} {t':SetTable} {zs:List Int} (hel:ElemsOf (iK P w) es'.toList) (hst:IntsAre (es'.toList.map Prod.snd) zs) (hnd:zs.Nodup) (hb:es'.size<scanBound) (hf:t'.fits es'.size=true) (hl:t'.led=(!byT w)) (hp:TabOk t') :
  (h.update a (Obj.putSet es' t')).get? a=some { o with data:=.set es' (ep+1) t' }/\SetI P w (h.update a (Obj.putSet es' t')) a zs:=by
 have hg:(h.update a (Obj.putSet es' t')).get? a=some { o with data:=.set es' (ep+1) t' }:=by
  have:=Heap.get?_update_self (Obj.putSet es' t') ho (by rw[putSet_of es' t' hd];rfl)
  rw[putSet_of es' t' hd] at this;exact this
 exact⟨hg,_,es',ep+1,t',hg,hex,rfl,hel,hst,hnd,hb,hf,hl,hp⟩
theorem addTailI{g:Bool->Sem Unit}(hg:∀ (b:Bool) (s₁:Shared) (Q':Unit->Shared->Prop),Q' () s₁->wpAny (model P w) A (g b) Q' E s₁)
  {a:Addr} {o:Obj} {es:Array (Int×Value)} {ep:Nat} {t:SetTable} (ho:s.heap.get? a=some o) (hex:o.ExactSet) (hd:o.data=.set es ep t)
  {es1:Array (Int×Value)} {t2:SetTable} {zs:List Int} (hel1:ElemsOf (iK P w) es1.toList) (hst:IntsAre (es1.toList.map Prod.snd) zs) (hnd:zs.Nodup)
  (hb1:es1.size<scanBound) (hf2:t2.fits es1.size=true) (hl:t2.led=(!byT w)) (hp:TabOk t2) {wasDummy:Bool} {R:Option Bool->Shared->Prop}
  (h:∀ h' zs',Heap.SameBut a s.heap h'->SetI P w h' a zs'->zs'.Perm zs->R (some true) { s with heap:=h' }) :
  wpAny (model P w) A (do
    storeSet a es1 t2
    if (!wasDummy && t2.tooFull)=true then do
      g (relayAll t2 es1 (SetTable.grown es1.size)).2.2
      storeSet a (relayAll t2 es1 (SetTable.grown es1.size)).1 (relayAll t2 es1 (SetTable.grown es1.size)).2.1
      pure (some true)
     else pure (some true)) R E s:=by
 refine wpAny_bind (wpAny_storeSet_of ho hd ?_ (fits_of_scanBound hb1))
 obtain⟨ho1,hS1⟩:=ZeV (P:=P) (w:=w) ho hex hd hel1 hst hnd hb1 hf2 hl hp
 have hsb1:=Heap.SameBut.update s.heap a (Obj.putSet es1 t2)
 split
 ·have hpm:=relayAll_perm t2 es1 (SetTable.grown es1.size)
  have hfr:=relayAll_fits t2 es1 (SetTable.grown es1.size)
  have hl2:=(ZdF t2 es1 (SetTable.grown es1.size)).1
  have hp2:=hp.relay es1 (SetTable.grown es1.size)
  generalize hRl:relayAll t2 es1 (SetTable.grown es1.size)=Rl at hpm hfr hl2 hp2 ⊢
  obtain⟨es2,t3,gave2⟩:=Rl
  dsimp only at hpm hfr hl2 hp2 ⊢
  have hel2:ElemsOf (iK P w) es2.toList:=hel1.perm hpm
  obtain⟨zs',hst2,hzp⟩:=Zdo (hpm.map Prod.snd) hst
  have hsz:es2.size=es1.size:=by rw[<- Array.length_toList,hpm.length_eq,Array.length_toList]
  have hb2:es2.size<scanBound:=by rw[hsz];exact hb1
  refine wpAny_bind (hg _ _ _ ?_)
  refine wpAny_bind (wpAny_storeSet_of ho1 rfl ?_ (fits_of_scanBound hb2))
  obtain⟨_,hS2⟩:=ZeV (P:=P) (w:=w) ho1 hex rfl hel2 hst2 (hzp.nodup_iff.mpr hnd) hb2 hfr (hl2.trans hl) hp2
  exact wpAny_pure (h _ _ (hsb1.trans (Heap.SameBut.update _ a _)) hS2 hzp)
 ·exact wpAny_pure (h _ _ hsb1 hS1 (.refl _))
theorem add_int{a:Addr}{zs:List Int}{z:Int}{tk:Tok}{Q:Bool->Shared->Prop}(hS:SetI P w s.heap a zs)(hroom:zs.length+1<scanBound)
  (h:∀ h' zs' b,Heap.SameBut a s.heap h'->SetI P w h' a zs'->(∀ y,y∈zs'↔y∈zs\/y=z)->zs'.length<=zs.length+1->Q b { s with heap:=h' }) :
  wpAny (model P w) A (setAddHashed a (.int z tk) ((iK P w).hash z)) Q E s:=by
 obtain⟨o,es,ep,t,ho,hex,hd,hel,hst,hnd,hb,hf,hl,hp⟩:=hS
 have hlen:es.size=zs.length:=by have:=Zb0 hst;rwa [List.length_map,Array.length_toList] at this
 have hkey:=intKind_is P w z tk
 have hsc:(Value.int z tk).scannable=true:=rfl
 have hb1:es.size+1<scanBound:=by rw[hlen];exact hroom
 unfold setAddHashed setAddHashedIn
 refine wpAny_holding (wpAny_bind (wpAny_setState_of ho hd hf ?_))
 dsimp only
 rw[byScan_of hsc hb hel]
 simp only[↓reduceIte]
 unfold setAddByScan
 refine wpAny_bind ?_
 refine wpAny_bind (wpAny_rule ?_)
 refine wpAny_bind (wpAny_setScan_of hkey ho hd hf hel ?_)
 cases hr:List.findIdx? (λe=>(iK P w).is z e.2) es.toList with
 | some j =>
  dsimp only
  obtain⟨hj,hpj,_⟩:=List.findIdx?_eq_some_iff_getElem.mp hr
  have hz:z∈zs:=(Zfp hst).mpr ⟨es.toList[j],List.getElem_mem hj,hpj⟩
  refine wpAny_pure (wpAny_pure ?_)
  have e:s={ s with heap:=s.heap }:=by cases s;rfl
  rw[e]
  exact h s.heap zs _ (Heap.SameBut.refl a s.heap) ⟨o,es,ep,t,ho,hex,hd,hel,hst,hnd,hb,hf,hl,hp⟩ (λy=>⟨.inl,λq=>q.elim id λe=>e▸hz⟩) (Nat.le_succ _)
 | none =>
  dsimp only
  have hz:z∉zs:=λq=>by
   obtain⟨e,he,hpe⟩:=(Zfp (P:=P) (w:=w) hst).mp q
   have:=List.findIdx?_eq_none_iff.mp hr e he
   rw[hpe] at this;exact Bool.noConfusion this
  have hgw:∀ (b:Bool) {s₁:Shared} {Q':Unit->Shared->Prop},Q' () s₁->wpAny (model P w) A (match b with|true=>rule "set.scan.the-table-gave-way" | false=>pure ()) Q' E s₁ :=
   λb s₁ Q' hq=>by cases b<;>first|exact wpAny_pure hq|exact wpAny_rule hq
  have hperm:=layNew_perm t es ((iK P w).hash z) (.int z tk)
  have hfits:=layNew_fits t es ((iK P w).hash z) (.int z tk)
  have hled:=ZeR t es ((iK P w).hash z) (.int z tk)
  have htab:=hp.layNew es ((iK P w).hash z) (.int z tk)
  generalize hL:layNew t es ((iK P w).hash z) (.int z tk)=L at hperm hfits hled htab ⊢
  obtain⟨es1,t1,wasDummy,gave⟩:=L
  dsimp only at hperm hfits hled htab ⊢
  rw[Array.toList_push] at hperm
  have hel1:ElemsOf (iK P w) es1.toList:=(hel.push hkey hsc).perm hperm
  have hst0:IntsAre ((es.toList++[((iK P w).hash z,Value.int z tk)]).map Prod.snd) (zs++[z]):=by rw[List.map_append];exact ZhF hst (.cons z tk .nil)
  obtain⟨zs1,hst1,hzp⟩:=Zdo (hperm.map Prod.snd) hst0
  have hnd1:zs1.Nodup:=hzp.nodup_iff.mpr (by rw[List.nodup_append];exact⟨hnd,by simp,λa ha b hb e=>hz (by rw[List.mem_singleton.mp hb] at e;exact e▸ha)⟩)
  have hb1':es1.size<scanBound:=by rw[<- Array.length_toList,hperm.length_eq,List.length_append,Array.length_toList];simpa using hb1
  have hend:∀ h' zs',Heap.SameBut a s.heap h'->SetI P w h' a zs'->zs'.Perm zs1->Q true { s with heap:=h' }:=λh' zs' hsb hS' hp' =>
   h h' zs' true hsb hS' (λy=>by rw[(hp'.trans hzp).mem_iff];simp) (by rw[(hp'.trans hzp).length_eq,List.length_append];exact Nat.le_refl _)
  refine wpAny_bind (hgw _ ?_)
  split
  ·refine wpAny_bind ?_
   rw[hashByValue_scannable 8 hsc]
   refine wpAny_pure ?_
   refine addTailI (t2:=t1) ?_ ho hex hd hel1 hst1 hnd1 hb1' hfits (hled.trans hl) htab ?_
   ·intro b s₁ Q' hq;cases b<;>first|exact wpAny_pure hq|exact wpAny_rule hq
   ·intro h' zs' hsb hS' hp';dsimp only;exact wpAny_pure (hend h' zs' hsb hS' hp')
  ·rename_i hpl
   refine wpAny_bind (wpAny_pure ?_)
   simp only[↓reduceIte]
   refine addTailI ?_ ho hex hd hel1 hst1 hnd1 hb1' hfits (hled.trans hl) htab ?_
   ·intro b s₁ Q' hq;cases b<;>first|exact wpAny_pure hq|exact wpAny_rule hq
   ·intro h' zs' hsb hS' hp';dsimp only;exact wpAny_pure (hend h' zs' hsb hS' hp')
end
end L2
end
section
namespace L2
open PySem PySem.Spec PyProof.Rows
section
variable {P:Program}{w:World}{A:Around}{R:Result->Shared->Prop}{I:Addr}{fp wr:List Addr}{G:Array GenState->Array GenState->Prop}{n:Nat}{Pv:Nat->Value->Prop}{St:Nat->Shared->Prop}
theorem SetI.moved{h h':Heap}{a:Addr}{zs:List Int}(hS:SetI P w h a zs)(k:∀ o,h.get? a=some o->h'.get? a=some o):SetI P w h' a zs:=by
 obtain⟨o,es,ep,t,ho,rest⟩:=hS
 exact⟨o,es,ep,t,k o ho,rest⟩
theorem Zjv(W:WalksS P w A.in1 I fp wr G n Pv St)(S:Addr)(hSf:S∉fp)(val:Nat->Int)(hval:∀ i v,Pv i v->∃ t,v=.int (val i) t)(hb:n+1<scanBound) :
  ∀ (k i:Nat) (s:Shared) (zs:List Int),n-i=k->i<=n->St i s->SetI P w s.heap S zs->zs.length<=i->(∀ y,y∈zs↔∃ j,j<i/\y=val j) ->
   (∀ s' zs',Moved (S::wr) G s s'->SetI P w s'.heap S zs'->(∀ y,y∈zs'↔∃ j,j<n/\y=val j)->zs'.length<=n->R (.ok (.ret .none)) s') ->
   codeAny (model P w) A (.builtin "set.update.loop" ⟨[.ref S,.ref I],[]⟩) R s:=by
 have hSw:S∉wr:=λh=>hSf (W.sub _ h)
 have hsub:∀ b∈wr,b∈S::wr:=λb hb=>List.mem_cons_of_mem _ hb
 intro k
 induction k with
 | zero =>
  intro i s zs hk hi hst hS hl hm hR
  have hin:i=n:=by omega
  subst hin
  refine codeAny_builtin PyProof.Rows.F.entry_set_update_loop ?_
  rw[Around.under_plainId PyProof.Rows.F.plain_set_update_loop _]
  show wpAny _ A.in1 (pyNext (.ref I) >>= _) _ _ s
  refine wpAny_bind (W.done s _ _ hst λs' hmv=>?_)
  show wpAny _ A.in1 (ret Value.none) _ _ s'
  exact wpAny_pure (hR s' zs (hmv.mono hsub) (hS.moved λo e=>hmv.heap S _ hSw e) hm hl)
 | succ k ih =>
  intro i s zs hk hi hst hS hl hm hR
  have hlt:i<n:=by omega
  refine codeAny_builtin PyProof.Rows.F.entry_set_update_loop ?_
  rw[Around.under_plainId PyProof.Rows.F.plain_set_update_loop _]
  show wpAny _ A.in1 (pyNext (.ref I) >>= _) _ _ s
  refine wpAny_bind (W.item i s _ _ hlt hst λv s' hP hst' hmv=>?_)
  obtain⟨t,rfl⟩:=hval i v hP
  have hS':SetI P w s'.heap S zs:=hS.moved λo e=>hmv.heap S _ hSw e
  show wpAny _ A.in1 (holding [Value.int (val i) t] (setAdd S (.int (val i) t)) >>= _) _ _ s'
  refine wpAny_bind (wpAny_holding ?_)
  unfold setAdd
  refine wpAny_holding ?_
  refine wpAny_bind ((iK P w).pyHash (k:=val i) (intKind_is P w _ _) ?_)
  refine add_int (s:={ s' with toks:=s'.toks+1 }) hS' (by omega) λh' zs' b hsb hS2 hm2 hl2=>?_
  refine wpAny_pure ⟨plainId_quiet PyProof.Rows.F.plain_set_update_loop _,ih (i+1) _ zs' (by omega) hlt (W.frame _ s' _ _ hst' (Nat.le_succ _) λb hb o e=>?_) hS2 (by omega) (λy=>?_) λs'' zs'' hm'' hS'' hmm hll=>?_⟩
  ·rw[hsb.2 b (λh:b=S=>hSf (by rw[<- h];exact hb))];exact e
  ·rw[hm2,hm]
   constructor
   ·rintro (⟨j,hj,e⟩|e)
    ·exact⟨j,by omega,e⟩
    ·exact⟨i,by omega,e⟩
   ·rintro⟨j,hj,e⟩
    by_cases q:j=i
    ·subst q;exact .inr e
    ·exact .inl ⟨j,by omega,e⟩
  ·refine hR s'' zs'' (Moved.trans W.gtrans ((hmv.mono hsub).then_heap (Nat.le_succ _) λb o hb e=>?_) hm'') hS'' hmm hll
   rw[hsb.2 b (λh:b=S=>hb (by rw[h];exact List.mem_cons_self))];exact e
end
theorem Zjw:∀ {vs:List Value} {ns:List Int},IntsAre vs ns->∀ (i:Nat) (v:Value),vs[i]?=some v->∃ t,v=.int (ns.getD i 0) t
 | _,_,.nil,i,v,h=>by simp at h
 | _,_,.cons n t hr,0,v,h=>by simp at h;exact⟨t,by rw[<- h];rfl⟩
 | _,_,.cons n t hr,i+1,v,h=>by
  simp only[List.getElem?_cons_succ] at h
  obtain⟨t',e⟩:=Zjw hr i v h
  exact⟨t',by rw[e];rfl⟩
section
variable {P:Program}{w:World}{A:Around}{E:Value->Shared->Prop}{s:Shared}
theorem Zip{l:Addr}{items:Array Value}{ns:List Int}{Q:Value->Shared->Prop}
  (hh:A.handled=none) (hl:s.heap.IsList l items) (hi:IntsAre items.toList ns) (hb:items.size+1<scanBound)
  (h:∀ (h':Heap) (tk:Nat) (zs:List Int),SetI P w h' s.heap.objs.size zs->(∀ y,y∈zs↔y∈ns)->zs.length<=ns.length ->
   (∀ b o,b<s.heap.objs.size->s.heap.get? b=some o->h'.get? b=some o)->Q (.ref s.heap.objs.size) { s with heap:=h',toks:=tk }) :
  wpAny (model P w) A (call (.type "set") [.ref l]) Q E s:=by
 have hlen:items.size=ns.length:=by have:=Zb0 hi;rwa [Array.length_toList] at this
 have hmem:∀ y,(∃ j,j<items.size/\y=ns.getD j 0)↔y∈ns:=λy=>by
  constructor
  ·rintro⟨j,hj,rfl⟩
   rw[List.getD_eq_getElem?_getD,List.getElem?_eq_getElem (by omega)]
   exact List.getElem_mem _
  ·intro hy
   obtain⟨j,hj,rfl⟩:=List.getElem_of_mem hy
   exact⟨j,by omega,by rw[List.getD_eq_getElem?_getD,List.getElem?_eq_getElem hj];rfl⟩
 obtain⟨c,tl,hmro⟩:=PySem.F.called_set.mro
 have hmade:=PySem.F.called_set.made
 have hsub:=PySem.F.called_set.sub
 refine wpAny_call (codeAny_of_tree ?_)
 show wpAny _ _ (callAny (.type "set") _) _ _ _
 refine wpAny_pure ⟨Code.quiet_builtin _ (by decide +kernel),codeAny_builtin PySem.F.entry_type_call ?_⟩
 rw[Around.under_plain (weight_type_call_type "set" [.ref l] []) rfl]
 have h1:=PySem.F.called_set.notType
 have h2:=PySem.F.called_set.canCreate
 have hct:=PySem.F.typeCall_set_1 (.ref l)
 repeat (any_goals (first|assumption|wp_step))
 refine codeAny_mono (Zdl (.ref l) (E:=E) (Q₁:=λobj s₁=>obj=.ref s.heap.objs.size/\s₁={ s with heap:=s.heap.push { cls:=.type "set",dict:=none,data:=.set #[] 0 (.fresh 0 0 (!byT w)) } }) ⟨rfl,rfl⟩) λr s₁ hr=>?_
 cases r with
 | error e=>exact hr
 | ok fl =>
  cases fl with
  | ret obj =>
   obtain⟨rfl,rfl⟩:=hr
   have hS:(s.heap.push { cls:=.type "set",dict:=none,data:=.set #[] 0 (.fresh 0 0 (!byT w)) }).get? s.heap.objs.size=some { cls:=.type "set",dict:=none,data:=.set #[] 0 (.fresh 0 0 (!byT w)) }:=Heap.get?_push_size _ rfl
   have hT:Shared.TypeIs { s with heap:=s.heap.push { cls:=.type "set",dict:=none,data:=.set #[] 0 (.fresh 0 0 (!byT w)) } } (.ref s.heap.objs.size) "set" := ⟨_,hS,rfl⟩
   have hli:=PySem.F.called_set.init.lookup
   have hbi:=PySem.F.called_set.init.bind (.ref s.heap.objs.size)
   repeat (any_goals (first|assumption|wp_step))
   refine codeAny_mono (codeAny_call_builtin (R:=wants (λr s₂=>r=.none/\∃ h' tk zs,s₂={ s with heap:=h',toks:=tk } /\
     SetI P w h' s.heap.objs.size zs/\(∀ y,y∈zs↔y∈ns)/\zs.length<=ns.length /\
     (∀ b o,b<s.heap.objs.size->s.heap.get? b=some o->h'.get? b=some o)) E) PySem.F.called_set.init.plain PySem.F.entry_set_init (check_set_init_1 hT ?_)) λr₂ s₂ hr₂=>?_
   ·obtain⟨ol,hol,hcl,nl,hdl⟩:=hl
    obtain⟨ocls,odict,odata,oslots⟩:=ol
    simp only at hcl hdl
    subst hcl;subst hdl
    have hol':(s.heap.push { cls:=.type "set",dict:=none,data:=.set #[] 0 (.fresh 0 0 (!byT w)) }).get? l=some { cls:=.type "list",dict:=odict,data:=.seq items nl,slots:=oslots }:=Heap.get?_push_of_some _ hol
    have hsls:=PySem.F.sub_list_set
    have hslf:=PySem.F.sub_list_frozenset
    have hne:(Value.type "list" == Value.type "dict")=false:=by decide
    have hl1:(s.heap.push { cls:=.type "set",dict:=none,data:=.set #[] 0 (.fresh 0 0 (!byT w)) }).IsList l items:=⟨_,hol',rfl,nl,rfl⟩
    unfold Builtin.«set.__init__» noKeywords Builtin.Frozenset.updateFrom
    generalize hPI:pyIter=PI
    wp_walk
    subst hPI
    refine wpAny_pyIter_list hl1 ?_
    refine wpAny_bind (wpAny_runValue ?_)
    have hlS:l<s.heap.objs.size:=Heap.lt_size hol
    have hh3:A.in1.in1.in1.handled=none:=by simp[hh]
    have hneI:l≠(s.heap.push { cls:=.type "set",dict:=none,data:=.set #[] 0 (.fresh 0 0 (!byT w)) }).objs.size:=by
     rw[Heap.size_push];exact Nat.ne_of_lt (Nat.lt_succ_of_lt hlS)
    have hSf:s.heap.objs.size∉[(s.heap.push { cls:=.type "set",dict:=none,data:=.set #[] 0 (.fresh 0 0 (!byT w)) }).objs.size,l]:=by
     rw[Heap.size_push];simp only[List.mem_cons,List.mem_singleton,List.not_mem_nil,or_false,not_or]
     exact⟨Nat.ne_of_lt (Nat.lt_succ_self _),Nat.ne_of_gt hlS⟩
    have hval:∀ (i:Nat) (v:Value),items[i]?=some v->∃ t,v=.int ((λi=>ns.getD i 0) i) t:=λi v hv =>
     Zjw hi i v (by rw[Array.getElem?_toList];exact hv)
    refine Zjv ((Walks.list hh3 _ l hneI items).toS) s.heap.objs.size
     hSf (λi=>ns.getD i 0) hval hb (items.size-0) 0 _ [] (by omega) (Nat.zero_le _)
     ⟨⟨_,Heap.get?_push_size _ rfl,rfl,rfl⟩,(hl1.push _)⟩ ?hS0 (Nat.le_refl _) (λy=>by simp) ?hR
    case hS0 =>
     have hget:((s.heap.push { cls:=.type "set",dict:=none,data:=.set #[] 0 (.fresh 0 0 (!byT w)) }).push { cls:=.type "list_iterator",data:=.fields #[.ref l,.int 0 0] }).get? s.heap.objs.size
       = some { cls:=.type "set",dict:=none,data:=.set #[] 0 (.fresh 0 0 (!byT w)) }:=Heap.get?_push_of_some _ hS
     exact⟨_,#[],0,_,hget,⟨rfl,rfl,rfl⟩,rfl,λe he=>by simp at he,.nil,.nil,by decide,by rfl,rfl,TabOk.fresh _ _ _⟩
    case hR =>
     intro s' zs' hm hS' hmm hll
     obtain⟨h',g',d',tk',os'⟩:=s'
     have eg:g'=s.gens:=hm.gens
     have ed:d'=s.drawn:=hm.drawn
     have eo:os'=s.os:=hm.os
     subst eg;subst ed;subst eo
     show wpAny _ _ _ _ _ _
     refine wpAny_pure ?_
     show wpAny _ _ (ret Value.none) _ _ _
     refine wpAny_pure ⟨rfl,h',tk',zs',rfl,hS',λy=>(hmm y).trans (hmem y),by omega,λb o hb e=>?_⟩
     have hb1:b≠s.heap.objs.size:=Nat.ne_of_lt hb
     have hb2:b≠(s.heap.push { cls:=.type "set",dict:=none,data:=.set #[] 0 (.fresh 0 0 (!byT w)) }).objs.size:=by
      rw[Heap.size_push];exact Nat.ne_of_lt (Nat.lt_succ_of_lt hb)
     exact hm.heap b o (by simp only[List.mem_cons,List.mem_singleton,List.not_mem_nil,or_false,not_or];exact⟨hb1,hb2⟩) (Heap.get?_push_of_some _ (Heap.get?_push_of_some _ e))
   ·cases r₂ with
    | error e=>exact hr₂
    | ok fl₂ =>
     cases fl₂ with
     | ret r =>
      obtain⟨rfl,h',tk,zs,rfl,hS',hmm,hll,hk'⟩:=hr₂
      repeat (any_goals (first|assumption|wp_step))
      exact h _ _ _ hS' hmm hll hk'
     | _=>exact hr₂.elim
  | _=>exact hr.elim
end
end L2
end
section
namespace L2
open PySem PySem.Spec PyProof.Rows
def WkG(w:World)(it a pl:Addr)(vs:List Value)(i:Nat)(h:Heap):Prop :=
  ∃ o es ep t,h.get? a=some o/\o.data=.set es ep t/\t.fits es.size=true/\t.led=(!byT w)/\vs.length=es.size /\
    ((byT w=true/\ItAt h it (.int 0 0) i a es.size ep/\vs=(pickOrder (w.params.setOrder a ep) es).toList.map Prod.snd) \/
     (byT w=false/\t.plain=false/\1<es.size/\∃ ps:List Nat,ItAt h it (.ref pl) i a es.size ep/\(∃ op n,h.get? pl=some op/\op.data=.seq (ps.map λ(p:Nat)=>rawInt p).toArray n)/\ps.length=vs.length/\∀ (j p:Nat),ps[j]?=some p->∃ e:Int×Value,es[p]?=some e/\vs[j]?=some e.2) \/
     (byT w=false/\((t.plain=true\/es.size<=1)/\TabOk t)/\∃ slot:Nat,ItAt h it (.int slot 0) i a es.size ep/\SetTable.below t.place slot=i/\vs=es.toList.map Prod.snd))
theorem WkG.keep{w:World}{h h':Heap}{it a pl:Addr}{vs:List Value}{i:Nat}(x:WkG w it a pl vs i h)(k:∀ b∈[it,a,pl],∀ o,h.get? b=some o->h'.get? b=some o):WkG w it a pl vs i h':=by
 obtain⟨o,es,ep,t,h1,h2,h3,h4,h5,r⟩:=x
 refine⟨o,es,ep,t,k a (by simp) o h1,h2,h3,h4,h5,?_⟩
 rcases r with⟨a1,a2,a3⟩|⟨a1,a2,a3,ps,b1,⟨op,n,c1,c2⟩,b3⟩|⟨a1,a2,sl,b1,b2⟩
 ·exact .inl ⟨a1,a2.keep (k it (by simp)),a3⟩
 ·exact .inr (.inl ⟨a1,a2,a3,ps,b1.keep (k it (by simp)),⟨op,n,k pl (by simp) op c1,c2⟩,b3⟩)
 ·exact .inr (.inr ⟨a1,a2,sl,b1.keep (k it (by simp)),b2⟩)
section
variable {P:Program}{w:World}{A:Around}{E:Value->Shared->Prop}{s:Shared}{a:Addr}
theorem ZeW{a:Addr}{o:Obj}{es:Array (Int×Value)}{ep sl i:Nat}{t:SetTable}{Q:Option (Value×Nat)->Shared->Prop}(h1:s.heap.get? a=some o)(h2:o.data=.set es ep t)(h3:t.fits es.size=true)(h4:t.led=(!byT w))(hb:byT w=false)(hz:t.plain=true\/es.size<=1)
  (h:Q (match es[SetTable.below t.place sl]?,t.place[SetTable.below t.place sl]? with|some (_,x),some j=>some (x,j+1)|_,_=>none) s):wpAny (model P w) A (setNext a sl i ep) Q E s:=by
 unfold setNext
 refine wpAny_bind (wpAny_setState_of h1 h2 h3 ?_)
 dsimp only
 refine wpAny_bind (setsBy ?_)
 rw[hb,if_neg Bool.false_ne_true]
 refine wpAny_ite_split (λhd=>?_) λ_=>?_
 ·have hd:(!t.plain && decide (es.size > 1))=true:=hd
  simp only[Bool.and_eq_true,Bool.not_eq_true',decide_eq_true_eq] at hd
  rcases hz with z|z
  ·rw[hd.1] at z;cases z
  ·omega
 refine wpAny_bind ?_
 show wpAny _ _ (if (!t.led && !es.isEmpty)=true then _ else _) _ _ _
 rw[if_neg (by rw[h4,hb];simp)]
 exact wpAny_pure (wpAny_pure h)
theorem Zjx{it a pl:Addr}{vs:List Value}{i:Nat}{Q:Option Value->Shared->Prop}(hit:it≠a)(hip:it≠pl)(x:WkG w it a pl vs i s.heap){v:Value}(hv:vs[i]?=some v)
  (h:∀ h',WkG w it a pl vs (i+1) h'->Heap.SameBut it s.heap h'->Q (some v) { s with heap:=h' }):wpAny (model P w) A (pyNext (.ref it)) Q E s:=by
 obtain⟨o,es,ep,t,h1,h2,h3,h4,h5,r⟩:=x
 have hi:i<es.size:=by
  rcases Nat.lt_or_ge i vs.length with q|q
  ·omega
  ·rw[List.getElem?_eq_none q] at hv;cases hv
 have step:∀ (first first':Value) (oi:Obj),s.heap.get? it=some oi->oi.cls=.type "set_iterator" -> oi.data=.fields #[first,.int i 0,.ref a,.int es.size 0,.int ep 0]->ItAt ((s.heap.update it (Obj.mapFields (·.setIfInBounds 0 first'))).update it (Obj.mapFields (·.setIfInBounds 1 (rawInt ((i:Int)+1))))) it first' (i+1) a es.size ep/\ItAt (s.heap.update it (Obj.mapFields (·.setIfInBounds 1 (rawInt ((i:Int)+1))))) it first (i+1) a es.size ep:=λfirst first' oi e1 e2 e3=>by
  have g1:=Heap.get?_update_self (Obj.mapFields (·.setIfInBounds 0 first')) e1 (Obj.isFreed_of_fields (Obj.data_mapFields e3 _))
  have d1:(Obj.mapFields (·.setIfInBounds 0 first') oi).data=.fields #[first',.int i 0,.ref a,.int es.size 0,.int ep 0]:=by rw[Obj.data_mapFields e3];rfl
  refine⟨⟨_,Heap.get?_update_self _ g1 (Obj.isFreed_of_fields (Obj.data_mapFields d1 _)),(Obj.cls_mapFields ..).trans ((Obj.cls_mapFields ..).trans e2),by rw[Obj.data_mapFields d1];rfl⟩,⟨_,Heap.get?_update_self _ e1 (Obj.isFreed_of_fields (Obj.data_mapFields e3 _)),(Obj.cls_mapFields ..).trans e2,by rw[Obj.data_mapFields e3];rfl⟩⟩
 rcases r with⟨a1,⟨oi,e1,e2,e3⟩,a3⟩|⟨a1,a2,a3,ps,⟨oi,e1,e2,e3⟩,⟨op,n,c1,c2⟩,b3,b4⟩|⟨a1,a2,sl,⟨oi,e1,e2,e3⟩,b2,b3⟩
 ·have hT:s.TypeIs (.ref it) "set_iterator" := ⟨_,e1,e2⟩
  unfold pyNext
  refine wpAny_bind (wpAny_attempt (wpAny_callSpecial?_slot (name:=Str.ofString "__next__") hT Zad (wpAny_call_entry Zad hT Zaj ?_ (Zam _))))
  unfold Builtin.«set_iterator.__next__»
  refine wpAny_bind (wpAny_pure ?_)
  refine wpAny_bind (wpAny_fieldsOf e1 e3 ?_)
  dsimp only
  refine wpAny_bind (wpAny_setEntries_of h1 h2 h3 ?_)
  rw[if_neg (by simp)]
  have hs0:=step (.int 0 0) (.int 0 0) oi e1 e2 e3
  refine wpAny_bind (Zdn h1 h2 h3 a1 ?_)
  have hpk:(pickOrder (w.params.setOrder a ep) es)[(i:Int).toNat]?.map Prod.snd=some v:=by
   rw[a3,List.getElem?_map,Array.getElem?_toList] at hv
   exact hv
  obtain⟨e,he,rfl⟩:=Option.map_eq_some_iff.mp hpk
  rw[show ((ep:Nat):Int).toNat=ep from Int.toNat_natCast _,he]
  dsimp only[Option.map_some]
  refine wpAny_bind (wpAny_setField e1 e3 (by simp) ?_)
  have g1:=Heap.get?_update_self (Obj.mapFields (·.setIfInBounds 0 (rawInt ((Int.toNat 0:Nat):Int)))) e1 (Obj.isFreed_of_fields (Obj.data_mapFields e3 _))
  refine wpAny_bind (wpAny_setField g1 (Obj.data_mapFields e3 _) (by simp) ?_)
  refine wpAny_pure ⟨_,rfl,wpAny_pure (h _ ?_ ((Heap.SameBut.update ..).trans (Heap.SameBut.update ..)))⟩
  have ka:∀ {b:Addr} {u:Obj},b≠it->s.heap.get? b=some u->((s.heap.update it (Obj.mapFields (·.setIfInBounds 0 (rawInt ((Int.toNat 0:Nat):Int))))).update it (Obj.mapFields (·.setIfInBounds 1 (rawInt ((i:Int)+1))))).get? b=some u:=λhb q=>by
   rw[Heap.get?_update_ne _ _ _ _ hb,Heap.get?_update_ne _ _ _ _ hb];exact q
  exact⟨o,es,ep,t,ka (Ne.symm hit) h1,h2,h3,h4,h5,.inl ⟨a1,hs0.1,a3⟩⟩
 ·have hT:s.TypeIs (.ref it) "set_iterator" := ⟨_,e1,e2⟩
  unfold pyNext
  refine wpAny_bind (wpAny_attempt (wpAny_callSpecial?_slot (name:=Str.ofString "__next__") hT Zad (wpAny_call_entry Zad hT Zaj ?_ (Zam _))))
  unfold Builtin.«set_iterator.__next__»
  refine wpAny_bind (wpAny_pure ?_)
  refine wpAny_bind (wpAny_fieldsOf e1 e3 ?_)
  dsimp only
  refine wpAny_bind (wpAny_setEntries_of h1 h2 h3 ?_)
  rw[if_neg (by simp)]
  have hs0:=step (.ref pl) (.ref pl) oi e1 e2 e3
  refine wpAny_bind (wpAny_seqItems c1 c2 ?_)
  dsimp only
  have hps:i<ps.length:=by omega
  obtain⟨e,he,hev⟩:=b4 i ps[i] (List.getElem?_eq_getElem hps)
  rw[hv] at hev
  cases hev
  have hpl:((ps.map λ(p:Nat)=>rawInt p).toArray)[(i:Int).toNat]?=some (rawInt (ps[i]:Nat)):=by
   rw[Int.toNat_natCast,List.getElem?_toArray,List.getElem?_map,List.getElem?_eq_getElem hps];rfl
  rw[hpl]
  show wpAny _ _ (setNextDrawn a ((ps[i]:Nat):Int).toNat _ >>= _) _ _ _
  refine wpAny_bind (ZeT h1 h2 h3 (by rw[Int.toNat_natCast];exact he) ?_)
  refine wpAny_bind (wpAny_setField e1 e3 (by simp) ?_)
  refine wpAny_pure ⟨_,rfl,wpAny_pure (h _ ?_ (Heap.SameBut.update ..))⟩
  have ka:∀ {b:Addr} {u:Obj},b≠it->s.heap.get? b=some u->(s.heap.update it (Obj.mapFields (·.setIfInBounds 1 (rawInt ((i:Int)+1))))).get? b=some u:=λhb q=>by
   rw[Heap.get?_update_ne _ _ _ _ hb];exact q
  exact⟨o,es,ep,t,ka (Ne.symm hit) h1,h2,h3,h4,h5,.inr (.inl ⟨a1,a2,a3,ps,hs0.2,⟨op,n,ka (Ne.symm hip) c1,c2⟩,b3,b4⟩)⟩
 ·have hT:s.TypeIs (.ref it) "set_iterator" := ⟨_,e1,e2⟩
  unfold pyNext
  refine wpAny_bind (wpAny_attempt (wpAny_callSpecial?_slot (name:=Str.ofString "__next__") hT Zad (wpAny_call_entry Zad hT Zaj ?_ (Zam _))))
  unfold Builtin.«set_iterator.__next__»
  refine wpAny_bind (wpAny_pure ?_)
  refine wpAny_bind (wpAny_fieldsOf e1 e3 ?_)
  dsimp only
  refine wpAny_bind (wpAny_setEntries_of h1 h2 h3 ?_)
  rw[if_neg (by simp)]
  have hps:t.place.size=es.size:=by simp only[SetTable.fits,Bool.and_eq_true,beq_iff_eq] at h3;exact h3.1
  have hip':i<t.place.size:=by omega
  have hs0:=step (.int sl 0) (.int ((t.place[i]+1:Nat):Int) 0) oi e1 e2 e3
  refine wpAny_bind (ZeW h1 h2 h3 h4 a1 a2.1 ?_)
  have hev:es[i]?.map Prod.snd=some v:=by
   rw[b3,List.getElem?_map,Array.getElem?_toList] at hv
   exact hv
  obtain⟨e,he,rfl⟩:=Option.map_eq_some_iff.mp hev
  rw[Int.toNat_natCast,b2,he,Array.getElem?_eq_getElem hip']
  show wpAny _ _ (setField (.ref it) 0 (rawInt ((t.place[i]+1:Nat):Int)) >>= _) _ _ _
  refine wpAny_bind (wpAny_setField e1 e3 (by simp) ?_)
  have g1:=Heap.get?_update_self (Obj.mapFields (·.setIfInBounds 0 (rawInt ((t.place[i]+1:Nat):Int)))) e1 (Obj.isFreed_of_fields (Obj.data_mapFields e3 _))
  refine wpAny_bind (wpAny_setField g1 (Obj.data_mapFields e3 _) (by simp) ?_)
  refine wpAny_pure ⟨_,rfl,wpAny_pure (h _ ?_ ((Heap.SameBut.update ..).trans (Heap.SameBut.update ..)))⟩
  have ka:∀ {b:Addr} {u:Obj},b≠it->s.heap.get? b=some u->((s.heap.update it (Obj.mapFields (·.setIfInBounds 0 (rawInt ((t.place[i]+1:Nat):Int))))).update it (Obj.mapFields (·.setIfInBounds 1 (rawInt ((i:Int)+1))))).get? b=some u:=λhb q=>by
   rw[Heap.get?_update_ne _ _ _ _ hb,Heap.get?_update_ne _ _ _ _ hb];exact q
  exact⟨o,es,ep,t,ka (Ne.symm hit) h1,h2,h3,h4,h5,.inr (.inr ⟨a1,a2,t.place[i]+1,hs0.1,Zk4 a2.2.r.ix hip',b3⟩)⟩
theorem Zjy{it a pl:Addr}{vs:List Value}{Q:Option Value->Shared->Prop}(hh:A.handled=none)(x:WkG w it a pl vs vs.length s.heap)
  (h:∀ h',Heap.ExtBut it s.heap h'->Q none { s with heap:=h' }):wpAny (model P w) A (pyNext (.ref it)) Q E s:=by
 obtain⟨o,es,ep,t,h1,h2,h3,h4,h5,r⟩:=x
 rcases r with⟨a1,⟨oi,e1,e2,e3⟩,a3⟩|⟨a1,a2,a3,ps,⟨oi,e1,e2,e3⟩,⟨op,n,c1,c2⟩,b3,b4⟩|⟨a1,a2,sl,⟨oi,e1,e2,e3⟩,b2,b3⟩
 ·have hT:s.TypeIs (.ref it) "set_iterator" := ⟨_,e1,e2⟩
  unfold pyNext
  refine wpAny_bind (wpAny_attempt (wpAny_callSpecial?_slot (name:=Str.ofString "__next__") hT Zad (wpAny_call_entry Zad hT Zaj ?_ (Zam _))))
  unfold Builtin.«set_iterator.__next__»
  refine wpAny_bind (wpAny_pure ?_)
  refine wpAny_bind (wpAny_fieldsOf e1 e3 ?_)
  dsimp only
  refine wpAny_bind (wpAny_setEntries_of h1 h2 h3 ?_)
  rw[if_neg (by simp)]
  refine wpAny_bind (Zdn h1 h2 h3 a1 ?_)
  have hl:(pickOrder (w.params.setOrder a ep) es).size=vs.length:=by rw[a3,List.length_map,Array.length_toList]
  rw[show ((ep:Nat):Int).toNat=ep from Int.toNat_natCast _,show ((vs.length:Nat):Int).toNat=vs.length from Int.toNat_natCast _,Array.getElem?_eq_none (by omega)]
  dsimp only[Option.map_none]
  refine wpAny_bind (wpAny_setField e1 e3 (by simp) ?_)
  refine wpAny_bind ?_
  simp only[newExc,newTuple]
  refine wpAny_bind (wpAny_newObj_type ?_ (by size_fits))
  refine wpAny_bind (m:=firstArgMember _ _) (wpAny_of_eq (a:=Value.none) (by first|rfl|(simp only[firstArgMember];rfl)) ?_)
  refine wpAny_newObj_type ?_ (by size_fits)
  simp only[raiseNew]
  refine wpAny_bind (wpAny_handled ?_)
  rw[show A.in1.handled=none from hh]
  refine wpAny_bind (wpAny_pure (wpAny_throw ?_))
  refine wpAny_bind (wpAny_isInstance (T := "StopIteration") (b:=true) ⟨_,Heap.get?_push_size _ rfl,rfl⟩ isSubtype_stop ?_)
  exact wpAny_pure (h _ (((Heap.SameBut.update ..).extBut.push _).push _))
 ·have hT:s.TypeIs (.ref it) "set_iterator" := ⟨_,e1,e2⟩
  unfold pyNext
  refine wpAny_bind (wpAny_attempt (wpAny_callSpecial?_slot (name:=Str.ofString "__next__") hT Zad (wpAny_call_entry Zad hT Zaj ?_ (Zam _))))
  unfold Builtin.«set_iterator.__next__»
  refine wpAny_bind (wpAny_pure ?_)
  refine wpAny_bind (wpAny_fieldsOf e1 e3 ?_)
  dsimp only
  refine wpAny_bind (wpAny_setEntries_of h1 h2 h3 ?_)
  rw[if_neg (by simp)]
  refine wpAny_bind (wpAny_seqItems c1 c2 ?_)
  dsimp only
  rw[show ((vs.length:Nat):Int).toNat=vs.length from Int.toNat_natCast _,show ((ps.map λ(p:Nat)=>rawInt p).toArray)[vs.length]?=none by rw[List.getElem?_toArray,List.getElem?_eq_none (by rw[List.length_map];omega)]]
  dsimp only
  refine wpAny_bind (wpAny_setField e1 e3 (by simp) ?_)
  have g1:=Heap.get?_update_self (Obj.mapFields (·.setIfInBounds 0 (rawInt 0))) e1 (Obj.isFreed_of_fields (Obj.data_mapFields e3 _))
  refine wpAny_bind (wpAny_setField g1 (Obj.data_mapFields e3 _) (by simp) ?_)
  refine wpAny_bind ?_
  simp only[newExc,newTuple]
  refine wpAny_bind (wpAny_newObj_type ?_ (by size_fits))
  refine wpAny_bind (m:=firstArgMember _ _) (wpAny_of_eq (a:=Value.none) (by first|rfl|(simp only[firstArgMember];rfl)) ?_)
  refine wpAny_newObj_type ?_ (by size_fits)
  simp only[raiseNew]
  refine wpAny_bind (wpAny_handled ?_)
  rw[show A.in1.handled=none from hh]
  refine wpAny_bind (wpAny_pure (wpAny_throw ?_))
  refine wpAny_bind (wpAny_isInstance (T := "StopIteration") (b:=true) ⟨_,Heap.get?_push_size _ rfl,rfl⟩ isSubtype_stop ?_)
  exact wpAny_pure (h _ ((((Heap.SameBut.update ..).trans (Heap.SameBut.update ..)).extBut.push _).push _))
 ·have hT:s.TypeIs (.ref it) "set_iterator" := ⟨_,e1,e2⟩
  unfold pyNext
  refine wpAny_bind (wpAny_attempt (wpAny_callSpecial?_slot (name:=Str.ofString "__next__") hT Zad (wpAny_call_entry Zad hT Zaj ?_ (Zam _))))
  unfold Builtin.«set_iterator.__next__»
  refine wpAny_bind (wpAny_pure ?_)
  refine wpAny_bind (wpAny_fieldsOf e1 e3 ?_)
  dsimp only
  refine wpAny_bind (wpAny_setEntries_of h1 h2 h3 ?_)
  rw[if_neg (by simp)]
  refine wpAny_bind (ZeW h1 h2 h3 h4 a1 a2.1 ?_)
  rw[Int.toNat_natCast,b2,Array.getElem?_eq_none (show es.size<=vs.length by omega)]
  dsimp only
  refine wpAny_bind (wpAny_setField e1 e3 (by simp) ?_)
  refine wpAny_bind ?_
  simp only[newExc,newTuple]
  refine wpAny_bind (wpAny_newObj_type ?_ (by size_fits))
  refine wpAny_bind (m:=firstArgMember _ _) (wpAny_of_eq (a:=Value.none) (by first|rfl|(simp only[firstArgMember];rfl)) ?_)
  refine wpAny_newObj_type ?_ (by size_fits)
  simp only[raiseNew]
  refine wpAny_bind (wpAny_handled ?_)
  rw[show A.in1.handled=none from hh]
  refine wpAny_bind (wpAny_pure (wpAny_throw ?_))
  refine wpAny_bind (wpAny_isInstance (T := "StopIteration") (b:=true) ⟨_,Heap.get?_push_size _ rfl,rfl⟩ isSubtype_stop ?_)
  exact wpAny_pure (h _ (((Heap.SameBut.update ..).extBut.push _).push _))
theorem Zjz{it a pl:Addr}{vs:List Value}{i:Nat}{Q:Value->Shared->Prop}(x:WkG w it a pl vs i s.heap)(h:Q (.ref it) s):wpAny (model P w) A (pyIter (.ref it)) Q E s:=by
 have hT:s.TypeIs (.ref it) "set_iterator" := by
  obtain⟨o,es,ep,t,h1,h2,h3,h4,h5,r⟩:=x
  rcases r with⟨_,⟨oi,e1,e2,_⟩,_⟩|⟨_,_,_,ps,⟨oi,e1,e2,_⟩,_⟩|⟨_,_,sl,⟨oi,e1,e2,_⟩,_⟩
  ·exact⟨oi,e1,e2⟩
  ·exact⟨oi,e1,e2⟩
  ·exact⟨oi,e1,e2⟩
 refine wpAny_pyIter_slot hT Zbb (wpAny_call_entry Zbb hT Zcd ?_ (Zco _))
 show wpAny _ _ (ret (.ref it)) _ _ s
 exact wpAny_pure ⟨_,rfl, "set_iterator",_,hT,Zad.lookup,h⟩
theorem ZeX{it a pl:Addr}{vs:List Value}(hh:A.handled=none)(hit:it≠a)(hip:it≠pl):WalksS P w A it [it,a,pl] [it] Eq vs.length (λi v=>vs[i]?=some v) (λi s=>WkG w it a pl vs i s.heap) where
 sub:=λb hb=>by rw[List.mem_singleton.mp hb];simp
 grefl:=λ_=>rfl
 gtrans:=λ_ _ _=>Eq.trans
 frame:=λi s h' tk st _ k=>WkG.keep st k
 item:=λi s Q E hi st hQ=>Zjx hit hip st (List.getElem?_eq_getElem hi) λh' st' sb=>hQ _ _ (List.getElem?_eq_getElem hi) st' ⟨λb o hb e=>(sb.2 b (λz=>hb (by simp[z]))).trans e,rfl,rfl,rfl,Nat.le_refl _⟩
 done:=λs Q E st hQ=>Zjy hh st λh' eb=>hQ _ ⟨λb o hb e=>eb b o (λz=>hb (by simp[z])) e,rfl,rfl,rfl,Nat.le_refl _⟩
 self:=λi s Q E st hQ=>Zjz st hQ
theorem ZjA{a:Addr}{zs:List Int}{Q:Value->Shared->Prop}(hS:SetI P w s.heap a zs)
  (h:∀ (it pl:Addr) (vs:List Value) (zs':List Int) (h':Heap) (d:Drawn),it≠a->it≠pl->s.heap.objs.size<=it->(pl=a\/s.heap.objs.size<=pl)->IntsAre vs zs'->zs'.Perm zs->WkG w it a pl vs 0 h'->(∀ b o,s.heap.get? b=some o->h'.get? b=some o)->Q (.ref it) { s with heap:=h',drawn:=d }) :
  wpAny (model P w) A (pyIter (.ref a)) Q E s:=by
 obtain⟨o,es,ep,t,h1,hex,h2,hel,hst,hnd,hb,h3,h4,hp⟩:=hS
 have hT:s.TypeIs (.ref a) "set" := ⟨o,h1,hex.1⟩
 have hlt:=Heap.lt_size h1
 refine wpAny_pyIter_slot hT PySem.F.slot_set_iter (wpAny_call_entry PySem.F.slot_set_iter hT Zcn ?_ (PySem.F.args_set_iter_1 _))
 unfold Builtin.«frozenset.__iter__»
 refine wpAny_bind (m:=Builtin.Frozenset.slot0 _ _) (wpAny_bind (wpAny_pure (wpAny_pure ?_)))
 refine wpAny_bind (wpAny_bind (wpAny_setEntries_of h1 h2 h3 (wpAny_pure ?_)))
 refine wpAny_bind ?_
 unfold setDrawn
 refine wpAny_bind (wpAny_setState_of h1 h2 h3 ?_)
 dsimp only
 refine wpAny_bind (setsBy (wpAny_pure ?_))
 have fin:∀ (first:Value) (s1:Shared) (R:PySem.Fin->Shared->Prop) (EE:Value->Shared->Prop),s1.heap.get? a=some o->R (.done (.ret (.ref s1.heap.objs.size))) { s1 with heap:=s1.heap.push { cls:=.type "set_iterator",data:=.fields #[first,rawInt 0,.ref a,rawInt es.size,rawInt ep] } } ->
   wpAny (model P w) A.in1 (do
    let __do_lift <- setEpoch a
    let __do_lift <- newFields "set_iterator" [first,rawInt 0,Value.ref a,rawInt es.size,rawInt __do_lift]
    ret __do_lift) R EE s1:=λfirst s1 R EE q hR=>by
  refine wpAny_bind (wpAny_setEpoch_of q h2 h3 ?_)
  refine wpAny_bind ?_
  unfold newFields
  exact wpAny_newObj_type (wpAny_pure hR) (by size_fits)
 show wpAny _ _ (if (!byT w && (!t.plain && decide (es.size > 1)))=true then _ else _) _ _ _
 have itAt:∀ (h0:Heap) (first:Value) ,ItAt (h0.push { cls:=.type "set_iterator",data:=.fields #[first,rawInt 0,.ref a,rawInt es.size,rawInt ep] }) h0.objs.size first 0 a es.size ep:=λh0 first=>⟨_,Heap.get?_push_size _ rfl,rfl,rfl⟩
 refine wpAny_ite_split (λhd=>?_) λhd=>?_
 ·simp only[Bool.and_eq_true,Bool.not_eq_true',decide_eq_true_eq] at hd
  refine wpAny_bind (ZgN _ _ _ _ (List.length_range ..) λps d hps=>?_)
  refine wpAny_bind (wpAny_newTuple ?_ (by rw[List.length_map,hps.length_eq,List.length_range];exact fits_of_scanBound hb))
  refine fin _ _ _ _ (Heap.get?_push_of_some _ h1) ⟨_,rfl, "set_iterator",_,⟨_,Heap.get?_push_size _ rfl,rfl⟩,Zad.lookup,?_⟩
  have hlp:ps.length=es.size:=by rw[hps.length_eq,List.length_range]
  have hvr:(List.range es.size).map (λp=>(es[p]?.map Prod.snd).getD Value.none)=es.toList.map Prod.snd:=by
   refine List.ext_getElem (by simp) λj g1 g2=>?_
   have hj:j<es.size:=by simpa using g1
   simp[Array.getElem?_eq_getElem hj]
  have hpp:(ps.map λp=>(es[p]?.map Prod.snd).getD Value.none).Perm (es.toList.map Prod.snd):=by rw[<- hvr];exact hps.map _
  obtain⟨zs',hs',hp'⟩:=Zdo hpp hst
  have hne:(s.heap.push { cls:=.type "tuple",data:=.seq (ps.map λ(i:Nat)=>rawInt i).toArray }).objs.size=s.heap.objs.size+1:=Heap.size_push ..
  have:=h (s.heap.push { cls:=.type "tuple",data:=.seq (ps.map λ(i:Nat)=>rawInt i).toArray }).objs.size s.heap.objs.size (ps.map λp=>(es[p]?.map Prod.snd).getD Value.none) zs' _ d (by rw[hne];exact Nat.ne_of_gt (Nat.lt_succ_of_lt hlt)) (by rw[hne];exact Nat.ne_of_gt (Nat.lt_succ_self _)) (by rw[hne];exact Nat.le_succ _) (.inr (Nat.le_refl _)) hs' hp'
   ⟨o,es,ep,t,Heap.get?_push_of_some _ (Heap.get?_push_of_some _ h1),h2,h3,h4,by rw[List.length_map,hlp],.inr (.inl ⟨hd.1,hd.2.1,hd.2.2,ps,itAt _ _,⟨_,_,Heap.get?_push_of_some _ (Heap.get?_push_size _ rfl),rfl⟩,by rw[List.length_map],λj p hj=>?_⟩)⟩ λb u q=>Heap.get?_push_of_some _ (Heap.get?_push_of_some _ q)
  ·exact this
  ·have hp1:p<es.size:=by
    have:=hps.mem_iff.mp (List.mem_of_getElem? hj)
    exact List.mem_range.mp this
   exact⟨es[p],Array.getElem?_eq_getElem hp1,by rw[List.getElem?_map,hj];simp[Array.getElem?_eq_getElem hp1]⟩
 ·refine wpAny_bind (wpAny_pure ?_)
  refine fin _ _ _ _ h1 ⟨_,rfl, "set_iterator",_,⟨_,Heap.get?_push_size _ rfl,rfl⟩,Zad.lookup,?_⟩
  have ka:∀ b u,s.heap.get? b=some u->(s.heap.push { cls:=.type "set_iterator",data:=.fields #[rawInt 0,rawInt 0,.ref a,rawInt es.size,rawInt ep] }).get? b=some u:=λb u q=>Heap.get?_push_of_some _ q
  cases hbt:byT w with
  | true =>
   obtain⟨zs',hs',hp'⟩:=Zdo ((Zdm (w.params.setOrder a ep) es).map Prod.snd) hst
   exact h s.heap.objs.size a _ zs' _ s.drawn (Nat.ne_of_gt hlt) (Nat.ne_of_gt hlt) (Nat.le_refl _) (.inl rfl) hs' hp' ⟨o,es,ep,t,ka _ _ h1,h2,h3,h4,by rw[List.length_map,(Zdm _ _).length_eq,Array.length_toList],.inl ⟨hbt,itAt _ _,rfl⟩⟩ ka
  | false =>
   have hz:t.plain=true\/es.size<=1:=by
    by_cases q:t.plain=true
    ·exact .inl q
    ·refine .inr (Nat.le_of_not_lt λy=>hd ?_)
     rw[hbt,Bool.not_eq_true _ |>.mp q,decide_eq_true y]
     rfl
   have hps:t.place.size=es.size:=by simp only[SetTable.fits,Bool.and_eq_true,beq_iff_eq] at h3;exact h3.1
   refine h s.heap.objs.size a _ zs _ s.drawn (Nat.ne_of_gt hlt) (Nat.ne_of_gt hlt) (Nat.le_refl _) (.inl rfl) hst (.refl _) ⟨o,es,ep,t,ka _ _ h1,h2,h3,h4,by rw[List.length_map,Array.length_toList],.inr (.inr ⟨hbt,⟨hz,hp⟩,0,itAt _ _,ZmI,rfl⟩)⟩ ka
theorem Zgf{a:Addr}{zs:List Int}{R:List Value->Shared->Prop}(hh:A.handled=none)(hS:SetI P w s.heap a zs)
  (h:∀ (h':Heap) (tk:Nat) (d:Drawn) (acc:List Value) (zs':List Int),(∀ b o,s.heap.get? b=some o->h'.get? b=some o)->IntsAre acc zs'->zs'.Perm zs->R acc { s with heap:=h',toks:=tk,drawn:=d }) :
  wpAny (model P w) A (collect (.ref a)) R E s:=by
 have hb:zs.length<=sizeLine:=by
  obtain⟨o,es,ep,t,_,_,_,_,hst,_,hb,_⟩:=hS
  have:=Zb0 hst
  rw[List.length_map,Array.length_toList] at this
  rw[<- this];exact fits_of_scanBound hb
 unfold collect
 refine wpAny_bind (wpAny_runValue (codeAny_builtin entry_proto_collect' ?_))
 rw[Around.under_plainId PySem.F.plain_proto_collect _]
 show wpAny _ A.in1 (newList [] >>= λl=>again (.builtin "list.__iadd__" ⟨[l,.ref a],[]⟩)) _ _ s
 refine wpAny_bind (wpAny_newObj_type ?_)
 refine wpAny_pure ⟨plainId_quiet PySem.F.plain_list_iadd _,codeAny_builtin entry_list_iadd' ?_⟩
 rw[Around.under_plainId PySem.F.plain_list_iadd _]
 have hS₁:(s.heap.push { cls:=.type "list",data:=.seq ([]:List Value).toArray }).get? s.heap.objs.size=some { cls:=.type "list",data:=.seq #[] }:=Heap.get?_push_size _ rfl
 have hSs:SetI P w (s.heap.push { cls:=.type "list",data:=.seq ([]:List Value).toArray }) a zs:=hS.moved λo e=>Heap.get?_push_of_some _ e
 have hlt:a<s.heap.objs.size:=by obtain⟨o,_,_,_,h1,_⟩:=hS;exact Heap.lt_size h1
 have hT:∀ (s2:Shared),(∀ o,s.heap.get? a=some o->s2.heap.get? a=some o)->s2.TypeIs (.ref a) "set" := λs2 k=>by obtain⟨o,_,_,_,h1,hex,_⟩:=hS;exact⟨o,k o h1,hex.1⟩
 show wpAny _ A.in1 (Builtin.List.listExtendWith (.ref s.heap.objs.size) (.ref a) (.ref s.heap.objs.size)) _ _ _
 unfold Builtin.List.listExtendWith
 refine wpAny_bind (wpAny_typeOf (T := "set") (hT _ λo e=>Heap.get?_push_of_some _ e) ?_)
 have h1:Builtin.List.listSameRef (.ref s.heap.objs.size) (.ref a)=false:=by simp[Builtin.List.listSameRef,Nat.ne_of_gt hlt]
 have h2:(Value.type "set" == Value.type "list")=false:=by decide
 have h3:(Value.type "set" == Value.type "tuple")=false:=by decide
 simp only[h1,h2,h3,Bool.or_false,Bool.false_eq_true,if_false]
 refine wpAny_bind (ZjA hSs λit pl vs zs' h' d hit hip hge hpl hst hpm wk hk=>?_)
 refine wpAny_bind (wpAny_holding (ZhE (hT _ λo e=>hk _ _ (Heap.get?_push_of_some _ e)) ?_))
 have hsz:(s.heap.push { cls:=.type "list",data:=.seq ([]:List Value).toArray }).objs.size=s.heap.objs.size+1:=Heap.size_push ..
 have hSi:s.heap.objs.size≠it:=λz=>by have h0:(s.heap.push { cls:=.type "list",data:=.seq ([]:List Value).toArray }).objs.size<=it:=hge;rw[hsz,<- z] at h0;exact absurd h0 (Nat.not_succ_le_self _)
 have hSp:s.heap.objs.size≠pl:=λz=>by
  rcases hpl with e|e
  ·exact absurd hlt (by rw[<- e,<- z];exact Nat.lt_irrefl _)
  ·have h0:(s.heap.push { cls:=.type "list",data:=.seq ([]:List Value).toArray }).objs.size<=pl:=e
   rw[hsz,<- z] at h0;exact absurd h0 (Nat.not_succ_le_self _)
 have hSf:s.heap.objs.size∉[it,a,pl]:=by simp only[List.mem_cons,List.not_mem_nil,or_false,not_or];exact⟨hSi,Nat.ne_of_gt hlt,hSp⟩
 have hvl:vs.length<=sizeLine:=by rw[Zb0 hst,hpm.length_eq];exact hb
 have hS1:h'.get? s.heap.objs.size=some { cls:=.type "list",data:=.seq #[] }:=hk _ _ hS₁
 have hold:∀ b o,s.heap.get? b=some o->h'.get? b=some o:=λb o e=>hk _ _ (Heap.get?_push_of_some _ e)
 have itn:s.heap.get? it=none:=Heap.get?_none_of_le (Nat.le_trans (Nat.le_succ _) (by show s.heap.objs.size+1<=it;rw[<- hsz];exact hge))
 have last:∀ (s':Shared) (acc':Array Value) (c':Nat) (h2:Heap) ,(∀ b o,b≠s.heap.objs.size->h'.get? b=some o->h2.get? b=some o)->Moved (s.heap.objs.size::[it]) Eq { s with heap:=h2,drawn:=d } s'->s'.heap.get? s.heap.objs.size=some { cls:=.type "list",dict:=none,data:=.seq acc' c',slots:=#[] }->ItemsOf (λi v=>vs[i]?=some v) acc' vs.length ->
   wpAny (model P w) A (load s.heap.objs.size >>= λo=>match o.data with|.seq xs _=>pure xs.toList|_=>unsupported "internal:collect") R E s':=λs' acc' c' h2 k2 hm hS' hacc=>by
  refine wpAny_bind (wpAny_load hS' ?_)
  have e:acc'.toList=vs:=by
   refine List.ext_getElem? λj=>?_
   rw[Array.getElem?_toList]
   by_cases q:j<acc'.size
   ·have:=hacc.2 j acc'[j] (Array.getElem?_eq_getElem q)
    rw[Array.getElem?_eq_getElem q];exact this.symm
   ·rw[Array.getElem?_eq_none (by omega),List.getElem?_eq_none (by have:=hacc.1;omega)]
  have em:s'={ s with heap:=s'.heap,toks:=s'.toks,drawn:=d }:=by
   obtain⟨hh',g',d',t',o'⟩:=s'
   have e1:s.gens=g':=hm.gens
   have e2:d'=d:=hm.drawn
   have e3:o'=s.os:=hm.os
   subst e1 e2 e3
   rfl
  show wpAny _ _ (pure acc'.toList) _ _ _
  rw[e,em]
  exact wpAny_pure (h _ _ _ vs zs' (λb o q=>hm.heap b o (by
   simp only[List.mem_cons,List.not_mem_nil,or_false,not_or]
   exact⟨Nat.ne_of_lt (Heap.lt_size q),λz=>by rw[z,itn] at q;cases q⟩) (k2 b o (Nat.ne_of_lt (Heap.lt_size q)) (hold b o q))) hst hpm)
 have hh1:A.in1.handled=none:=hh
 refine wpAny_ite_split (λ_=>?_) λ_=>?_
 ·refine wpAny_bind (wpAny_rule ?_)
  refine wpAny_bind ?_
  show wpAny _ _ (updateSeq s.heap.objs.size (·.push .none) >>= λ_=>updateSeq s.heap.objs.size (·.pop)) _ _ _
  refine wpAny_bind (wpAny_updateSeq hS1 rfl ?_)
  have hS₂:=Heap.get?_update_self (Obj.mapSeq (·.push Value.none)) hS1 rfl
  refine wpAny_updateSeq (hz:=by seq_fits) hS₂ rfl ?_
  have hS₃:=Heap.get?_update_self (Obj.mapSeq (·.pop)) hS₂ rfl
  have k3:∀ b o,b≠s.heap.objs.size->h'.get? b=some o->((h'.update s.heap.objs.size (Obj.mapSeq (·.push Value.none))).update s.heap.objs.size (Obj.mapSeq (·.pop))).get? b=some o:=λb o hb e =>
   (Heap.get?_update_other _ _ (Ne.symm hb)).trans ((Heap.get?_update_other _ _ (Ne.symm hb)).trans e)
  refine wpAny_pure ⟨plainId_quiet PySem.F.plain_extend_loop _,codeAny_extend_loopS (ZeX hh1 hit hip) hvl s.heap.objs.size hSf _ vs.length 0 _ #[] _ rfl (Nat.zero_le _) (wk.keep λb hb o e=>k3 b o (λz=>hSf (z▸hb)) e) hS₃ (ItemsOf.nil _) λs' acc' c' hm hS' hacc=>?_⟩
  exact last s' acc' c' _ k3 hm hS' hacc
 ·refine wpAny_pure ⟨plainId_quiet PySem.F.plain_extend_loop _,codeAny_extend_loopS (ZeX hh1 hit hip) hvl s.heap.objs.size hSf _ vs.length 0 _ #[] _ rfl (Nat.zero_le _) wk hS1 (ItemsOf.nil _) λs' acc' c' hm hS' hacc=>?_⟩
  exact last s' acc' c' _ (λ_ _ _ e=>e) hm hS' hacc
end
end L2
end
section
namespace L2
open PySem PySem.Spec PyProof.Rows PySem.Calls
def hSI(P:Program)(w:World)(p:Addr)(zs:List Int):HO:=.ext λh=>SetI P w h p zs
theorem Zoj{P:Program}{w:World}{H:Hp}{h:Heap}{p:Addr}{zs:List Int}(x:SetI P w h p zs):ObjOk P w H h p (hSI P w p zs) :=
 ⟨x,let ⟨o,_,_,_,q,_⟩:=x;⟨o,q⟩,λh1 h2 y k=>y.moved k⟩
theorem intsV:∀ {vs:List Value} {zs:List Int},IntsAre vs zs->Vals (zs.map V.int) vs
 | _,_,.nil=>.nil
 | _,_,.cons x t h=>.cons ⟨t,rfl⟩ (intsV h)
def rSetI(P:Program)(w:World)(K:W.Frag):List V->Hp->VK->Prop:=λxs H Q=>∃ (l:Addr) (ns:List Int),xs=[.ref l]/\SqL K H l (ns.map V.int)/\ns.length<=4000/\∀ p zs,H p=none->zs.Nodup->(∀ y,y∈zs↔y∈ns)->zs.length<=ns.length->Q (.ref p) (upd H p (hSI P w p zs))
theorem ZjB{X:Cx}{P:Program}{w:World}{K:W.Frag}(hP:X.prog=P)(hw:X.w=w)(hK:X.K=K)(hc:X.calm=true):CallR X (.type "set") (rSetI P w K):=by
 subst hP hw hK
 intro pins s σ H xs us Q I r h
 obtain⟨l,ns,rfl,hq,hz,q⟩:=h
 obtain⟨u,rfl,ru⟩:=r.one
 cases (show u=Value.ref l from ru)
 obtain⟨its,rv,pl,_⟩:=I.list hq
 have hS:=Zfk rv
 have hl:its.toArray.size=ns.length:=by rw[List.size_toArray];exact Zb0 hS
 refine Zip (I.ok.hd hc) pl.isList (by simpa using hS) (by rw[hl];unfold scanBound;omega) λh' tk zs hT hm hle hk=>?_
 have hn:H s.heap.objs.size=none:=I.hok.fresh (Nat.le_refl _)
 have nd:zs.Nodup:=by obtain⟨_,_,_,_,_,_,_,_,_,nd,_⟩:=hT;exact nd
 exact⟨.ref s.heap.objs.size,_,I.laid (t':=tk) (o:=hSI X.prog X.w s.heap.objs.size zs) (λb o e=>hk b o (Heap.lt_size e) e) (Nat.le_refl _) (Zoj hT),rfl,q _ zs hn nd hm hle⟩
theorem Ziq{X:Cx}{pins:List (Addr×Obj)}{σ:St}{H:Hp}{s:Shared}{Q:VK}{E:Value->Shared->Prop}{acc:List Value}{zs:List Int}{h':Heap}{tk:Nat}{d:Drawn}(I1:Inv X pins σ H { s with heap:=h',toks:=tk,drawn:=d })(hS:IntsAre acc zs)(h64:zs.length<64)
  (q:∀ p (ys:List Int),H p=none->ys.Perm zs->ys.Pairwise (·<=·)->Q (.ref p) (upd H p (.lst (ys.map V.int)))) :
  wpAny (model X.prog X.w) X.A.in1 (do
   let l <- newList acc
   let _ <- holding [l] (call (.builtin "list.sort") [l] [])
   ret l) (λfin s'=>∃ v,fin=.done (.ret v)/\EP X pins σ Q v s') E { s with heap:=h',toks:=tk,drawn:=d }:=by
 have hl:acc.length=zs.length:=Zb0 hS
 refine wpAny_bind (wpAny_newList ?_ (by rw[hl,sizeLine_eq];omega))
 have hoL:(h'.push (seqObj "list" acc.toArray 0)).get? h'.objs.size=some (seqObj "list" acc.toArray 0):=Heap.get?_push_size _ rfl
 show wpAny _ _ _ _ _ { s with heap:=h'.push (seqObj "list" acc.toArray 0),toks:=tk,drawn:=d }
 refine wpAny_bind (wpAny_holding (wpAny_call_entry slot_list_sort ⟨_,hoL,rfl⟩ entry_list_sort (list_sort_tree hoL hS (by rw[hl];exact h64) λout ss h1 h2 h3=>⟨_,rfl,?_⟩) (args_list_sort _)))
 obtain⟨ee,he⟩:=sortedHeap_at (vs:=acc) (out:=out) hoL
 refine wpAny_pure ⟨_,rfl,.ref h'.objs.size,_,I1.laid (a:=h'.objs.size) (o:=.lst (ss.map V.int)) (t':=tk) (λb o eb=>?_) (Nat.le_refl _) ⟨?_,_,ee,intsV h1,by rw[Array.toArray_toList];exact he⟩,rfl,q _ _ (I1.hok.fresh (Nat.le_refl _)) h2 h3⟩
 ·have eb:h'.get? b=some o:=eb
  have hb:=Heap.lt_size eb
  rw[sortedHeap_old (Nat.ne_of_lt hb) (by rw[size_push'];exact Nat.lt_succ_of_lt hb)]
  exact Heap.get?_push_of_some _ eb
 ·rw[List.length_map,h2.length_eq]
  exact Nat.le_trans (Nat.le_of_lt h64) (by rw[sizeLine_eq];decide)
def rSortI(P:Program)(w:World):List V->Hp->VK->Prop:=λxs H Q=>∃ (a:Addr) (zs:List Int),xs=[.ref a]/\H a=some (hSI P w a zs)/\zs.length<64/\∀ p (ys:List Int),H p=none->ys.Perm zs->ys.Pairwise (·<=·)->Q (.ref p) (upd H p (.lst (ys.map V.int)))
theorem Zir{X:Cx}{P:Program}{w:World}(hP:X.prog=P)(hw:X.w=w)(hc:X.calm=true):CallR X (.builtin "sorted") (rSortI P w):=by
 subst hP hw
 intro pins s σ H xs us Q I rv h
 obtain⟨a,zs,rfl,e,h64,q⟩:=h
 obtain⟨u,rfl,ru⟩:=rv.one
 cases ru
 have hT:SetI X.prog X.w s.heap a zs:=(I.hok _ _ e).1
 refine call_function_entry kind_sorted plain_sorted entry_sorted (args_sorted1 _) ?_
 unfold Builtin.«sorted»
 refine wpAny_bind (m:=checkCount "sorted" 1 1 _) (wpAny_pure ?_)
 refine wpAny_bind (Zgf (A:=X.A.in1) (I.ok.hd hc) hT λh' tk d acc zs' hk hS hp=>?_)
 have I1:Inv X pins σ H { s with heap:=h',toks:=tk,drawn:=d }:=I.keptD hk
 exact Ziq I1 hS (by rw[hp.length_eq];exact h64) λp ys hn h1 h2=>q p ys hn (h1.trans hp) h2
end L2
namespace VL
open PySem PySem.Spec PyProof.Rows L2
variable [Tabs]
section
variable {K:W.Frag}{E:FK}{X:Exc->Sl->Prop}{ρ:Sl}{Q:TV->Prop}{P:Program}{w:World}
def SetIAt(P:Program)(w:World)(zs:List Int):V->Hp->Prop:=λv H=>∃ p,v=.ref p/\H p=some (hSI P w p zs)
theorem SR.intsP{H0 H:Hp}{σ:L2.St}{ts:List V}{as:List TV}(h:SR K H0 σ ρ ts as H):∀ zs:List Int,SR K H0 σ ρ (zs.map V.int++ts) ((zs.map λz=>AV.d (.int z)).map TV.av++as) H
 | []=>h
 | z::zs=>(SR.intsP h zs).int z
theorem ZmK{a:TV}{ns:List Int}(ha:a.data=.list (ns.map .int))(hz:ns.length<=4000)(q:∀ zs:List Int,zs.Nodup->(∀ y,y∈zs↔y∈ns)->zs.length<=ns.length->Q (.av (.obj (SetIAt P w zs))))(na:NR a:=by first|exact NR.av|exact NR.bor):Bi K E X (rSetI P w K) [a] Q:=λH0 σ ρ ts as H vs QV s hl _ k=>by
 obtain⟨v,rfl,s⟩:=ZbV s hl
 have r:=s.top na
 rw[ha] at r
 obtain⟨l,rfl,hq⟩:=Rep.intsL r
 exact⟨l,ns,rfl,hq,hz,λp zs hp h1 h2 h3=>k _ (q zs h1 h2 h3) _ _ (s.pop.pushObj hp (λG e=>⟨p,rfl,e⟩) λG1 G2 m ⟨p',e1,e2⟩=>⟨p',e1,m _ _ e2⟩)⟩
theorem Zk7{zs:List Int}(hz:zs.length<64)(q:∀ ys:List Int,ys.Perm zs->ys.Pairwise (·<=·)->Q (.av (.own (ys.map λz=>.d (.int z))))):Bi K E X (rSortI P w) [.av (.obj (SetIAt P w zs))] Q:=λH0 σ ρ ts as H vs QV s hl _ kk=>by
 obtain⟨v,rfl,s⟩:=ZbV s hl
 have:∃ p,v=.ref p/\H p=some (hSI P w p zs):=by
  obtain⟨⟨p,q,h1,h2,h3,h4⟩,e⟩:=s
  cases h2 with
  | cons r _ _ =>
   cases r with
   | av r =>
    cases r with
    | obj f _ _ =>
     obtain⟨p',e1,e2⟩:=f
     exact⟨p',e1,Zbg _ _ e2⟩
 obtain⟨p,rfl,hp⟩:=this
 exact⟨p,zs,rfl,hp,hz,λp' ys hn h1 h2=>kk _ (q ys h1 h2) _ _ (((SR.pop s).intsP ys).new (by simp) hn)⟩
end
end VL
end
section
namespace L2
open PySem PySem.Spec PyProof.Rows
theorem Zey{M:Model}{A:Around}{E:Value->Shared->Prop}{s:Shared}{m:Nat}{β:Type}(b:β)(f:Nat->β->Sem (ForInStep β))(I:Nat->β->Shared->Prop)(Q:β->Shared->Prop)
  (turn:∀ i b s,i<m->I i b s->wpAny M A (f i b) (λr s'=>match r with|.done b=>Q b s'|.yield b=>I (i+1) b s') E s) (fin:∀ b s,I m b s->Q b s) (h:I 0 b s):wpAny M A (forIn [:m] b f) Q E s:=by
 rw[Std.Legacy.Range.forIn_eq_forIn_range']
 simp only[Std.Legacy.Range.size,Nat.sub_zero,Nat.add_sub_cancel,Nat.div_one]
 refine wpAny_forIn_list _ (λrest b s'=>∃ i,rest=List.range' i (m-i)/\i<=m/\I i b s') _ ?_ ?_ _ _ ⟨0,by simp,Nat.zero_le _,h⟩
 ·rintro x rest b s' ⟨i,hr,hi,hI⟩
  have hlt:i<m:=by
   rcases Nat.lt_or_ge i m with h|h
   ·exact h
   ·rw[Nat.sub_eq_zero_of_le h] at hr;simp at hr
  obtain⟨rfl,hrest⟩:x=i/\rest=List.range' (i+1) (m-(i+1)):=by
   have e:m-i=(m-(i+1))+1:=by omega
   rw[e,List.range'_succ] at hr
   injection hr with h1 h2
   exact⟨h1,h2⟩
  refine wpAny_mono (turn x b s' hlt hI) (λr s2 hr=>?_) λ_ _ e=>e
  cases r with
  | done b=>exact hr
  | yield b=>exact⟨x+1,hrest,hlt,hr⟩
 ·rintro b s' ⟨i,hr,hi,hI⟩
  have:i=m:=by
   have:=congrArg List.length hr
   simp at this
   omega
  exact fin b s' (this▸hI)
theorem Zfq(l:Addr)(items:Array Value)(n:Nat)(dd:Option Addr)(sl:Array (Option Value))(x:Value)(e:Value->Bool)(j:Nat)(hj:j<items.size)
  (hit:e items[j]=true) (hno:∀ m (hm:m<items.size),m<j->e items[m]=false) :
  Meets (Builtin.«tuple.index» ⟨[.ref l,x],[]⟩)
   (λA R s=>s.heap.get? l=some { cls:=.type "tuple",dict:=dd,data:=.seq items n,slots:=sl }/\(∀ y,y∈items->SeqAt.EqAt A.in1 s y x (e y))/\R (.ok (.ret (.int j s.toks))) { s with toks:=s.toks+1 }) :=
 .of_wp λprog w A R s h=>by
  obtain⟨hp,g,d,tk,os⟩:=s;obtain⟨hl,he,h⟩:=h
  wp_walk using wpAny_loadPart' hl,Zey _ _ (λi b s'=>b.1=none/\s'=⟨hp,g,d,tk,os⟩/\i<=j) _
  case turn =>
   rintro i b s' hi ⟨hb,rfl,hij⟩
   have hi:i<items.size:=by rw[Nat.min_self] at hi;exact hi
   rw[Array.getElem?_eq_getElem hi]
   refine wpAny_bind (he _ (Array.getElem_mem hi) prog w _ _ ?_)
   by_cases hy:i=j
   ·subst hy
    rw[hit]
    wp_walk
    exact⟨_,rfl,h⟩
   ·rw[hno i hi (by omega)]
    wp_walk
    exact⟨rfl,rfl,by omega⟩
  case fin =>
   rintro⟨b1,b2⟩ s' ⟨hb,rfl,hij⟩
   rw[Nat.min_self] at hij
   omega
  case h =>
   exact⟨rfl,rfl,Nat.zero_le _⟩
def rIdxT(K:W.Frag):V->List V->Hp->VK->Prop:=λx vs H Q=>∃ (ds:List PyData) (d:PyData) (j:Nat) (v:V),∃ hj:j<ds.length,vs=[v]/\Rep K H x (.tuple ds)/\Rep K H v d/\PyData.canLayAll0 ds=true/\d.canLay0=true/\d.depth<=32/\ds.length<=1000000/\PyData.eqv ds[j] d=true/\(∀ m (hm:m<ds.length),m<j->PyData.eqv ds[m] d=false)/\Q (.int j) H
theorem ZjC{X:Cx}{K:W.Frag}(hK:X.K=K)(hu:X.A.units+64<cLine):MtR X "tuple.index" (rIdxT K):=by
 subst hK
 intro pins s σ H x vs v us Q I rx rv h
 obtain⟨ds,d,j,v',hj,rfl,h1,h2,h3,h4,h5,hz,hit,hno,q⟩:=h
 obtain⟨u,rfl,ru⟩:=rv.one
 obtain⟨as,k1⟩:=Rep.reads I (by simpa [PyData.canLay0] using h3) h1 rx
 obtain⟨bs,k2⟩:=Rep.reads I h4 h2 ru
 cases k1 with
 | @tuple a o items n _ as e1 e2 e3 e4 =>
  obtain⟨cl,dct,dt,sl⟩:=o
  replace e2:cl=.type "tuple" := e2
  replace e3:dt=.seq items n:=e3
  subst e2 e3
  have hm:items.toList.map (SeqAt.readOf s.heap)=ds:=SeqAt.readsAll_map ds _ _ h3 e4
  have hl:items.size=ds.length:=by rw[<- hm,List.length_map,Array.length_toList]
  have at':∀ i (hi:i<items.size) (hi2:i<ds.length),SeqAt.readOf s.heap items[i]=ds[i]:=λi hi hi2=>by
   have:(items.toList.map (SeqAt.readOf s.heap))[i]?=ds[i]?:=by rw[hm]
   rw[List.getElem?_map,List.getElem?_eq_getElem hi2,List.getElem?_eq_getElem (by simpa using hi)] at this
   simpa using this
  have hj2:j<items.size:=by omega
  refine call_meets F.slot_tuple_index ⟨_,e1,rfl⟩ F.entry_tuple_index (F.args_tuple_index_2 _ _) (Zfq a items n dct sl u (λy=>PyData.eqv (SeqAt.readOf s.heap y) d) j hj2 (by rw[at' j hj2 hj];exact hit) λm hm hmj=>by rw[at' m hm (by omega)];exact hno m (by omega) hmj) ⟨e1,λy hy=>?_,⟨.int j,H,I.tok _,⟨_,rfl⟩,q⟩⟩
  exact SeqAt.items_eqAt e4 k2 h3 h4 (by have:=Nat.min_le_right (PyData.depthAll ds) d.depth;omega) y hy
def tMTup(r:V->List V->Hp->VK->Prop)(to:TE)(t:TA):TE:=λσ H Q=>to σ H λx H1=>(∃ p xs,x=.ref p/\H1 p=some (.tup xs))/\t σ H1 λxs H2=>r x xs H2 Q
theorem ZmL{X:Cx}{o e:Expr}{es:List Expr}{to:TE}{t:TA}{name:Str}{apos cpos:Pos}{id:String}{r:V->List V->Hp->VK->Prop}(slot:Slot "tuple" name id)(hty:typeOf (.builtin id)=pure (.type "method_descriptor"))(hm:MtR X id r)(ho:PE X o to)(ha:PA X (e::es) t)
  (hbase:attributeBase o name X.env (eval o X.env)=eval o X.env:=by rfl)
  (hfew:((backTo cpos (starEach (e::es) X.env)).all (λx=>!x.1) && (backToKw cpos (keywordEach [] X.env)).all (λx=>x.1.isSome)
   && decide ((e::es).length+([]:List Keyword).length+(if ([]:List Keyword).isEmpty then 0 else 1)<30))=true:=by rfl)
  (hline:(apos.endLine == cpos.line)=true:=by rfl) (hs:starEach (e::es) X.env=(false,eval e X.env)::starEach es X.env:=by rfl) (hplain:(backTo cpos (starEach es X.env)).any (·.1)=false:=by rfl) :
  PE X (.Call (.Attribute o name apos) (e::es) [] cpos) (tMTup r to t):=by
 intro pins s σ H Q I h
 refine wpAny_Call_method_late hbase hfew hline rfl (thn (ho pins s σ H _ I h) λv s1 ⟨x,H1,I1,r1,⟨p,ys,ex,hp⟩,q1⟩=>?_)
 have ⟨h1,h2⟩:s1.TypeIs v "tuple" /\ ∀ a,v=.ref a->∃ ob,s1.heap.get? a=some ob/\ob.dict=none:=by
  subst ex
  cases r1
  obtain⟨_,its,_,ob,e,c,_,hd⟩:=(show ObjOk X.prog X.w H1 s1.heap p (.tup ys) from I1.hok p _ hp)
  exact⟨⟨ob,e,c⟩,λa ea=>by cases ea;exact⟨ob,e,hd⟩⟩
 refine⟨"tuple",id,F.plainAttrs_tuple,slot,hty,h1,h2,?_⟩
 have hA:=ha cpos pins s1 σ H1 _ I1 q1
 rw[hs] at hA ⊢
 refine Calls.callWith_builtin (by show (false || (backTo cpos (starEach es X.env)).any (·.1))=false;rw[hplain]<;>rfl) (Calls.evalArgs_plain ?_)
 exact thn hA λus s2 ⟨vs,H2,I2,r2,q2⟩=>hm pins s2 σ H2 x vs v us Q I2 r1 r2 q2
def rMaxL(K:W.Frag):List V->Hp->VK->Prop:=λxs H Q=>∃ (l:Addr) (ns:List Int),xs=[.ref l]/\SqL K H l (ns.map V.int)/\ns≠[]/\∀ m,m∈ns->(∀ a∈ns,a<=m)->Q (.int m) H
theorem ZjD{X:Cx}{K:W.Frag}(hK:X.K=K)(hc:X.calm=true):CallR X (.builtin "max") (rMaxL K):=by
 subst hK
 intro pins s σ H xs us Q I rv h
 obtain⟨l,ns,rfl,hq,hne,q⟩:=h
 obtain⟨u,rfl,ru⟩:=rv.one
 cases ru
 obtain⟨its,rs,pl,hz⟩:=I.list hq
 have hI:=ZeI rs
 obtain⟨ys,e⟩:=hI.allInts.items
 have hl:=pl.isList
 rw[e] at hl
 have hn:PySem.numsOf (intItems ys).toList=ns:=by rw[<- e];exact hI.numsOf
 rw[nums_intItems] at hn
 have hy:0<ys.size:=by
  have h1:ys.size=ns.length:=by rw[<- hn];simp
  have:0<ns.length:=List.length_pos_iff.mpr hne
  omega
 refine max_intList (I.ok.hd hc) hl hy λv h' tk hv hk=>?_
 obtain⟨t,rfl⟩:=intItems_at hv
 obtain⟨h1,h2⟩:=argBest_gt (numAt ys) (ys.size-1)
 refine⟨.int _,H,I.kept (t':=tk) hk,⟨_,rfl⟩,q _ ?_ λa ha=>?_⟩
 ·rw[<- hn,numAt_eq];exact getD_mem (by rw[List.length_map,Array.length_toList];omega)
 ·rw[<- hn] at ha
  obtain⟨j,hj,rfl⟩:=mem_getD ha
  rw[List.length_map,Array.length_toList] at hj
  rw[<- numAt_eq];exact h2 j (by omega)
end L2
namespace VL
open PySem PySem.Spec PyProof.Rows L2
variable [Tabs]
section
variable {K:W.Frag}{E:FK}{X:Exc->Sl->Prop}{ρ:Sl}{Q:TV->Prop}{te ti:TE}{a:TV}
theorem ZmM{ns:List Int}(ha:a.data=.list (ns.map .int))(hne:ns≠[])(q:∀ m,m∈ns->(∀ x∈ns,x<=m)->Q (.av (.d (.int m))))(na:NR a:=by first|exact NR.av|exact NR.bor):Bi K E X (rMaxL K) [a] Q:=λH0 σ ρ ts as H vs QV s hl _ k=>by
 obtain⟨v,rfl,s⟩:=ZbV s hl
 have r:=s.top na
 rw[ha] at r
 obtain⟨l,xs,rfl,h1,h2⟩:=r.list_inv
 rw[Reps.ints_inv h2] at h1
 exact⟨l,ns,rfl,h1,hne,λm m1 m2=>k _ (q m m1 m2) _ H (s.pop.int _)⟩
theorem ZmN{DV:VEnds}{n:Nat}{xs ys:List AV}{k e:Int}{m i j:Nat}{r':R2}(hi:ρ[n]?=some (some (.own xs)))(hx:ρ[i]?=some (some (.d (.int k))))(hj:ρ[j]?=some (some (.d (.int e))))(hk:ixN xs.length k=some m)(hy:xs[m]?=some (.own ys))(hz:ys.length<=1000000)
  (h:DV.nx (ρ.set n (some (.own (xs.set m (.own (ys++[.d (.int e)]))))))) :
  Sv K E X (tDrop (tBM K "list" rAppend (tOp (rOr (rIxL K) r') (tVar n) (tVar i)) (tCons (tVar j) tNil))) ρ DV:=λH0 σ ts as H D st s x f=>by
 obtain⟨l,m',us,vs,e1,e2,e3,e4,e5,e6,e7⟩:=(s.int e).write2 (ys':=ys++[.d (.int e)]) st hi hy
 refine⟨.ref l,e1,.int k,s.intAt hx,.inl ⟨l,us,k,.ref m',rfl,rfl,SqL.of e2,?_,Zf2 e5 ⟨.int e,s.intAt hj,m',vs,.int e,rfl,rfl,e5,small6 (by omega),f.nx _ h _ _ (e7 _ λG H p q r1 r2=>⟨_,λ_=>Nat.le_refl _,RAs.snoc r2 r1⟩)⟩⟩⟩
 unfold L2.atI
 rw[e3,hk]
 exact e4
theorem ZjE{α:Type}[DecidableEq α]{f:α->PyData}{m:Nat}(F:Enc f m)(h:Ev K E X te ρ λa=>∃ xs:List α,a.data=.tuple (xs.map f)/\NR a/\xs.length<=1000000/\Ev K E X ti ρ λb=>∃ c,b.data=f c/\NR b/\c∈xs/\Q (.av (.d (.int (xs.idxOf c:Nat)))))(hm:m<=32:=by decide) :
  Ev K E X (tMTup (rIdxT K) te (tCons ti tNil)) ρ Q:=λH0 σ ts as H QV s x k =>
 h H0 σ ts as H _ s x λa ⟨xs,ha,na,hz,h2⟩ v H1 s1=>by
  have r1:=s1.top na
  rw[ha] at r1
  have ty:∃ p ys,v=.ref p/\H1 p=some (.tup ys):=by
   obtain⟨p,ys,e,hp,_⟩:=r1.tuple_at
   exact⟨p,ys,e,hp⟩
  refine⟨ty,h2 H0 σ _ _ H1 _ s1 x λb ⟨c,hb,nb,hc,q⟩ w H2 s2=>?_⟩
  have r2:=s2.top nb
  have r3:=s2.pop.top na
  rw[hb] at r2
  rw[ha] at r3
  have hl:=List.idxOf_lt_length_of_mem hc
  refine⟨xs.map f,f c,xs.idxOf c,w,by rw[List.length_map];exact hl,rfl,r3,r2,ZgJ F xs,F.lay c,Nat.le_trans (F.dep c) hm,by rw[List.length_map];exact hz,?_,λi hi hij=>?_,k _ q _ _ (s2.pop.pop.int _)⟩
  ·rw[List.getElem_map,List.getElem_idxOf]
   exact (F.eqv c c).mpr rfl
  ·rw[List.getElem_map]
   rw[List.length_map] at hi
   have ne:xs[i]≠c:=Zgc hi hij
   cases z:PyData.eqv (f xs[i]) (f c) with
   | false=>rfl
   | true=>exact absurd ((F.eqv _ _).mp z) ne
end
end VL
end
section
namespace L2
open PySem PySem.Spec PyProof.Rows
section
variable {P:Program}{w:World}{A:Around}{E:Value->Shared->Prop}{s:Shared}
theorem Zis{l:Addr}{items:Array Value}{ns:List Str}{Q:Value->Shared->Prop}
  (hh:A.handled=none) (hl:s.heap.IsTuple l items) (hi:StrsAre items.toList ns) (hb:items.size+1<scanBound)
  (h:∀ (h':Heap) (tk:Nat) (zs:List Str),SetT P w h' s.heap.objs.size zs->(∀ y,y∈zs↔y∈ns)->zs.length<=ns.length ->
   (∀ b o,b<s.heap.objs.size->s.heap.get? b=some o->h'.get? b=some o)->Q (.ref s.heap.objs.size) { s with heap:=h',toks:=tk }) :
  wpAny (model P w) A (call (.type "set") [.ref l]) Q E s:=by
 have hlen:items.size=ns.length:=by have:=ZbZ hi;rwa [Array.length_toList] at this
 have hmem:∀ y,(∃ j,j<items.size/\y=ns.getD j Str.empty)↔y∈ns:=λy=>by
  constructor
  ·rintro⟨j,hj,rfl⟩
   rw[List.getD_eq_getElem?_getD,List.getElem?_eq_getElem (by omega)]
   exact List.getElem_mem _
  ·intro hy
   obtain⟨j,hj,rfl⟩:=List.getElem_of_mem hy
   exact⟨j,by omega,by rw[List.getD_eq_getElem?_getD,List.getElem?_eq_getElem hj];rfl⟩
 obtain⟨c,tl,hmro⟩:=PySem.F.called_set.mro
 have hmade:=PySem.F.called_set.made
 have hsub:=PySem.F.called_set.sub
 refine wpAny_call (codeAny_of_tree ?_)
 show wpAny _ _ (callAny (.type "set") _) _ _ _
 refine wpAny_pure ⟨Code.quiet_builtin _ (by decide +kernel),codeAny_builtin PySem.F.entry_type_call ?_⟩
 rw[Around.under_plain (weight_type_call_type "set" [.ref l] []) rfl]
 have h1:=PySem.F.called_set.notType
 have h2:=PySem.F.called_set.canCreate
 have hct:=PySem.F.typeCall_set_1 (.ref l)
 repeat (any_goals (first|assumption|wp_step))
 refine codeAny_mono (Zdl (.ref l) (E:=E) (Q₁:=λobj s₁=>obj=.ref s.heap.objs.size/\s₁={ s with heap:=s.heap.push { cls:=.type "set",dict:=none,data:=.set #[] 0 (.fresh 0 0 (!byT w)) } }) ⟨rfl,rfl⟩) λr s₁ hr=>?_
 cases r with
 | error e=>exact hr
 | ok fl =>
  cases fl with
  | ret obj =>
   obtain⟨rfl,rfl⟩:=hr
   have hS:(s.heap.push { cls:=.type "set",dict:=none,data:=.set #[] 0 (.fresh 0 0 (!byT w)) }).get? s.heap.objs.size=some { cls:=.type "set",dict:=none,data:=.set #[] 0 (.fresh 0 0 (!byT w)) }:=Heap.get?_push_size _ rfl
   have hT:Shared.TypeIs { s with heap:=s.heap.push { cls:=.type "set",dict:=none,data:=.set #[] 0 (.fresh 0 0 (!byT w)) } } (.ref s.heap.objs.size) "set" := ⟨_,hS,rfl⟩
   have hli:=PySem.F.called_set.init.lookup
   have hbi:=PySem.F.called_set.init.bind (.ref s.heap.objs.size)
   repeat (any_goals (first|assumption|wp_step))
   refine codeAny_mono (codeAny_call_builtin (R:=wants (λr s₂=>r=.none/\∃ h' tk zs,s₂={ s with heap:=h',toks:=tk } /\
     SetT P w h' s.heap.objs.size zs/\(∀ y,y∈zs↔y∈ns)/\zs.length<=ns.length /\
     (∀ b o,b<s.heap.objs.size->s.heap.get? b=some o->h'.get? b=some o)) E) PySem.F.called_set.init.plain PySem.F.entry_set_init (check_set_init_1 hT ?_)) λr₂ s₂ hr₂=>?_
   ·obtain⟨ol,hol,hcl,nl,hdl⟩:=hl
    obtain⟨ocls,odict,odata,oslots⟩:=ol
    simp only at hcl hdl
    subst hcl;subst hdl
    have hol':(s.heap.push { cls:=.type "set",dict:=none,data:=.set #[] 0 (.fresh 0 0 (!byT w)) }).get? l=some { cls:=.type "tuple",dict:=odict,data:=.seq items nl,slots:=oslots }:=Heap.get?_push_of_some _ hol
    have hsls:=PySem.F.sub_tuple_set
    have hslf:=PySem.F.sub_tuple_frozenset
    have hne:(Value.type "tuple" == Value.type "dict")=false:=by decide
    have hl1:(s.heap.push { cls:=.type "set",dict:=none,data:=.set #[] 0 (.fresh 0 0 (!byT w)) }).IsTuple l items:=⟨_,hol',rfl,nl,rfl⟩
    unfold Builtin.«set.__init__» noKeywords Builtin.Frozenset.updateFrom
    generalize hPI:pyIter=PI
    wp_walk
    subst hPI
    refine wpAny_pyIter_tuple hl1 ?_
    refine wpAny_bind (wpAny_runValue ?_)
    have hlS:l<s.heap.objs.size:=Heap.lt_size hol
    have hh3:A.in1.in1.in1.handled=none:=by simp[hh]
    have hneI:l≠(s.heap.push { cls:=.type "set",dict:=none,data:=.set #[] 0 (.fresh 0 0 (!byT w)) }).objs.size:=by
     rw[Heap.size_push];exact Nat.ne_of_lt (Nat.lt_succ_of_lt hlS)
    have hSf:s.heap.objs.size∉[(s.heap.push { cls:=.type "set",dict:=none,data:=.set #[] 0 (.fresh 0 0 (!byT w)) }).objs.size,l]:=by
     rw[Heap.size_push];simp only[List.mem_cons,List.mem_singleton,List.not_mem_nil,or_false,not_or]
     exact⟨Nat.ne_of_lt (Nat.lt_succ_self _),Nat.ne_of_gt hlS⟩
    have hval:∀ (i:Nat) (v:Value),items[i]?=some v->∃ t,v=.str ((λi=>ns.getD i Str.empty) i) t:=λi v hv =>
     Zjr hi i v (by rw[Array.getElem?_toList];exact hv)
    refine Zjq ((Walks.tuple hh3 _ l hneI items).toS) s.heap.objs.size
     hSf (λi=>ns.getD i Str.empty) hval hb (items.size-0) 0 _ [] (by omega) (Nat.zero_le _)
     ⟨⟨_,Heap.get?_push_size _ rfl,rfl,rfl⟩,(hl1.push _)⟩ ?hS0 (Nat.le_refl _) (λy=>by simp) ?hR
    case hS0 =>
     have hget:((s.heap.push { cls:=.type "set",dict:=none,data:=.set #[] 0 (.fresh 0 0 (!byT w)) }).push { cls:=.type "tuple_iterator",data:=.fields #[.ref l,.int 0 0] }).get? s.heap.objs.size
       = some { cls:=.type "set",dict:=none,data:=.set #[] 0 (.fresh 0 0 (!byT w)) }:=Heap.get?_push_of_some _ hS
     exact⟨_,#[],0,_,hget,⟨rfl,rfl,rfl⟩,rfl,λe he=>by simp at he,.nil,.nil,by decide,by rfl,rfl,λz=>absurd rfl z⟩
    case hR =>
     intro s' zs' hm hS' hmm hll
     obtain⟨h',g',d',tk',os'⟩:=s'
     have eg:g'=s.gens:=hm.gens
     have ed:d'=s.drawn:=hm.drawn
     have eo:os'=s.os:=hm.os
     subst eg;subst ed;subst eo
     show wpAny _ _ _ _ _ _
     refine wpAny_pure ?_
     show wpAny _ _ (ret Value.none) _ _ _
     refine wpAny_pure ⟨rfl,h',tk',zs',rfl,hS',λy=>(hmm y).trans (hmem y),by omega,λb o hb e=>?_⟩
     have hb1:b≠s.heap.objs.size:=Nat.ne_of_lt hb
     have hb2:b≠(s.heap.push { cls:=.type "set",dict:=none,data:=.set #[] 0 (.fresh 0 0 (!byT w)) }).objs.size:=by
      rw[Heap.size_push];exact Nat.ne_of_lt (Nat.lt_succ_of_lt hb)
     exact hm.heap b o (by simp only[List.mem_cons,List.mem_singleton,List.not_mem_nil,or_false,not_or];exact⟨hb1,hb2⟩) (Heap.get?_push_of_some _ (Heap.get?_push_of_some _ e))
   ·cases r₂ with
    | error e=>exact hr₂
    | ok fl₂ =>
     cases fl₂ with
     | ret r =>
      obtain⟨rfl,h',tk,zs,rfl,hS',hmm,hll,hk'⟩:=hr₂
      repeat (any_goals (first|assumption|wp_step))
      exact h _ _ _ hS' hmm hll hk'
     | _=>exact hr₂.elim
  | _=>exact hr.elim
end
def rSetTt(P:Program)(w:World):List V->Hp->VK->Prop:=λxs H Q=>∃ (l:Addr) (ns:List Str),xs=[.ref l]/\H l=some (.tup (ns.map V.str))/\ns.length<=4000/\∀ p zs,H p=none->zs.Nodup->(∀ y,y∈zs↔y∈ns)->zs.length<=ns.length->Q (.ref p) (upd H p (hST P w p zs))
theorem Zit{X:Cx}{P:Program}{w:World}(hP:X.prog=P)(hw:X.w=w)(hc:X.calm=true):CallR X (.type "set") (rSetTt P w):=by
 subst hP hw
 intro pins s σ H xs us Q I r h
 obtain⟨l,ns,rfl,hq,hz,q⟩:=h
 obtain⟨u,rfl,ru⟩:=r.one
 cases (show u=Value.ref l from ru)
 obtain⟨_,its,rv,pl⟩:=(show ObjOk X.prog X.w H s.heap l (.tup (ns.map V.str)) from I.hok l _ hq)
 have hS:=valsS rv
 have hl:its.toArray.size=ns.length:=by rw[List.size_toArray];exact ZbZ hS
 refine Zis (I.ok.hd hc) (IsTupN.is pl) (by simpa using hS) (by rw[hl];unfold scanBound;omega) λh' tk zs hT hm hle hk=>?_
 have hn:H s.heap.objs.size=none:=I.hok.fresh (Nat.le_refl _)
 have nd:zs.Nodup:=by obtain⟨_,_,_,_,_,_,_,_,_,nd,_⟩:=hT;exact nd
 exact⟨.ref s.heap.objs.size,_,I.laid (t':=tk) (o:=hST X.prog X.w s.heap.objs.size zs) (λb o e=>hk b o (Heap.lt_size e) e) (Nat.le_refl _) (Zoi hT),rfl,q _ zs hn nd hm hle⟩
end L2
namespace VL
open PySem PySem.Spec PyProof.Rows L2
variable [Tabs]
section
variable {K:W.Frag}{E:FK}{X:Exc->Sl->Prop}{ρ:Sl}{Q:TV->Prop}{P:Program}{w:World}
theorem Rep.strsT{H:Hp}{v:V}{zs:List Str}(h:Rep K H v (.tuple (zs.map .str))):∃ l,v=.ref l/\H l=some (.tup (zs.map V.str)):=by
 obtain⟨a,xs,e,ha,rs⟩:=h.tuple_at
 refine⟨a,e,?_⟩
 have key:∀ (zs:List Str) (xs:List V),Reps K H xs (zs.map .str)->xs=zs.map V.str:=by
  intro zs
  induction zs with
  | nil=>intro xs rs;cases rs;rfl
  | cons k ks ih=>intro xs rs;cases rs with
   | cons r rs=>rw[Rep.str_inv r,ih _ rs];rfl
 have this:=key zs xs rs
 rw[<- this];exact ha
theorem Zk8{a:TV}{ns:List Str}(ha:a.data=.tuple (ns.map .str))(hz:ns.length<=4000)(q:∀ zs:List Str,zs.Nodup->(∀ y,y∈zs↔y∈ns)->zs.length<=ns.length->Q (.av (.obj (SetTAt P w zs))))(na:NR a:=by first|exact NR.av|exact NR.bor):Bi K E X (rSetTt P w) [a] Q:=λH0 σ ρ ts as H vs QV s hl _ k=>by
 obtain⟨v,rfl,s⟩:=ZbV s hl
 have r:=s.top na
 rw[ha] at r
 obtain⟨l,rfl,hq⟩:=Rep.strsT r
 exact⟨l,ns,rfl,hq,hz,λp zs hp h1 h2 h3=>k _ (q zs h1 h2 h3) _ _ (s.pop.pushObj hp (λG e=>⟨p,rfl,e⟩) λG1 G2 m ⟨p',e1,e2⟩=>⟨p',e1,m _ _ e2⟩)⟩
end
end VL
end
section
set_option exponentiation.threshold 2000
namespace K42
open PySem L2 VL
def top(i:Nat):Stmt:=PySem.Challenge.pw_figurewheel_k42_every_and_some.main.body.getD i (.Pass ⟨0,0,0,0⟩)
abbrev ZdA:Stmt:=top 7
theorem Za7:FnScope ["start", "letters", "lead", "most", "met", "numbers", "rows", "row", "letter", "thing"] ["start", "letters", "lead", "most"] (defScope ZdA):=⟨rfl,rfl,rfl,by decide +kernel,rfl,by decide +kernel,by decide +kernel⟩
abbrev Zb1:Stmt:=top 8
theorem ZcN:FnScope ["start", "letters", "lead", "sign", "most", "told"] ["start", "letters", "lead", "sign", "most"] (defScope Zb1):=⟨rfl,rfl,rfl,by decide +kernel,rfl,by decide +kernel,by decide +kernel⟩
abbrev Zau:Stmt:=top 9
theorem ZaP:FnScope ["machine", "stands", "rows", "signs", "lead", "sign"] ["machine", "stands"] (defScope Zau):=⟨rfl,rfl,rfl,by decide +kernel,rfl,by decide +kernel,by decide +kernel⟩
abbrev Zas:Stmt:=(defBody Zau).getD 2 (.Pass ⟨0,0,0,0⟩)
theorem Zdp:FnScopeF ["room", "letter", "stands", "rows"] ["room", "letter"] (defScope Zas):=⟨rfl,rfl,rfl,by decide +kernel,rfl,by decide +kernel⟩
theorem ZcV:capOk ["machine", "stands", "rows", "signs", "lead", "sign"] (defScope Zau) (defScope Zas) ["room", "letter", "stands", "rows"] [none,none,some 1,some 2]=true:=by decide +kernel
theorem Zdq:∀ y∈(defScope Zas).names,y.2=.free->(defScope Zau).names.lookup y.1=some .cell\/(defScope Zau).names.lookup y.1=some .free:=by decide +kernel
abbrev Zat:Stmt:=(defBody Zau).getD 3 (.Pass ⟨0,0,0,0⟩)
theorem Zdr:FnScopeF ["room", "signs"] ["room"] (defScope Zat):=⟨rfl,rfl,rfl,by decide +kernel,rfl,by decide +kernel⟩
theorem ZcW:capOk ["machine", "stands", "rows", "signs", "lead", "sign"] (defScope Zau) (defScope Zat) ["room", "signs"] [none,some 3]=true:=by decide +kernel
theorem Zds:∀ y∈(defScope Zat).names,y.2=.free->(defScope Zau).names.lookup y.1=some .cell\/(defScope Zau).names.lookup y.1=some .free:=by decide +kernel
abbrev ZbS:Stmt:=top 10
theorem Zax:FnScope ["things", "firsts", "index", "thing"] ["things"] (defScope ZbS):=⟨rfl,rfl,rfl,by decide +kernel,rfl,by decide +kernel,by decide +kernel⟩
abbrev Zfr:Stmt:=top 11
theorem ZjF:FnScope ["rows", "alike"] ["rows", "alike"] (defScope Zfr):=⟨rfl,rfl,rfl,by decide +kernel,rfl,by decide +kernel,by decide +kernel⟩
abbrev Zb2:Stmt:=top 12
theorem Za1:FnScope ["machine", "alike", "many"] ["machine"] (defScope Zb2):=⟨rfl,rfl,rfl,by decide +kernel,rfl,by decide +kernel,by decide +kernel⟩
abbrev ZgP:Stmt:=top 13
theorem Zk9:FnScope ["machine"] ["machine"] (defScope ZgP):=⟨rfl,rfl,rfl,by decide +kernel,rfl,by decide +kernel,by decide +kernel⟩
abbrev ZcX:Stmt:=top 14
theorem Zgg:FnScope ["start", "letters", "lead", "sign", "most"] ["start", "letters", "lead", "sign", "most"] (defScope ZcX):=⟨rfl,rfl,rfl,by decide +kernel,rfl,by decide +kernel,by decide +kernel⟩
abbrev ZcY:Stmt:=top 18
theorem Zgh:FnScope ["base"] ["base"] (defScope ZcY):=⟨rfl,rfl,rfl,by decide +kernel,rfl,by decide +kernel,by decide +kernel⟩
abbrev Zbn:Stmt:=top 19
theorem ZbA:FnScope ["place", "base", "figures", "rest"] ["place", "base"] (defScope Zbn):=⟨rfl,rfl,rfl,by decide +kernel,rfl,by decide +kernel,by decide +kernel⟩
abbrev ZbE:Stmt:=top 20
theorem ZbQ:FnScope ["figures", "base", "number", "figure"] ["figures", "base"] (defScope ZbE):=⟨rfl,rfl,rfl,by decide +kernel,rfl,by decide +kernel,by decide +kernel⟩
abbrev Zfs:Stmt:=top 21
theorem ZjG:FnScope ["figures", "length"] ["figures", "length"] (defScope Zfs):=⟨rfl,rfl,rfl,by decide +kernel,rfl,by decide +kernel,by decide +kernel⟩
abbrev Zcp:Stmt:=top 22
theorem Ziu:FnScope ["column", "base"] ["column", "base"] (defScope Zcp):=⟨rfl,rfl,rfl,by decide +kernel,rfl,by decide +kernel,by decide +kernel⟩
abbrev ZbF:Stmt:=top 23
theorem Zgi:FnScope ["code", "many", "base"] ["code", "many", "base"] (defScope ZbF):=⟨rfl,rfl,rfl,by decide +kernel,rfl,by decide +kernel,by decide +kernel⟩
abbrev Zb3:Stmt:=top 28
theorem Zbl:FnScope ["base", "names", "many", "name"] ["base", "names"] (defScope Zb3):=⟨rfl,rfl,rfl,by decide +kernel,rfl,by decide +kernel,by decide +kernel⟩
abbrev Zft:Stmt:=top 29
theorem ZjH:FnScope ["names"] ["names"] (defScope Zft):=⟨rfl,rfl,rfl,by decide +kernel,rfl,by decide +kernel,by decide +kernel⟩
abbrev Zcq:Stmt:=top 30
theorem Zfu:FnScope ["base", "names"] ["base", "names"] (defScope Zcq):=⟨rfl,rfl,rfl,by decide +kernel,rfl,by decide +kernel,by decide +kernel⟩
abbrev ZbT:Stmt:=top 31
theorem ZaS:FnScope ["base", "names", "part", "spots", "codes", "code", "column"] ["base", "names", "part"] (defScope ZbT):=⟨rfl,rfl,rfl,by decide +kernel,rfl,by decide +kernel,by decide +kernel⟩
abbrev Za5:Stmt:=top 32
theorem Zbo:FnScope ["base", "one", "one_names", "other", "other_names", "sign", "names", "one_codes", "other_codes", "lead", "pair_sign"] ["base", "one", "one_names", "other", "other_names", "sign"] (defScope Za5):=⟨rfl,rfl,rfl,by decide +kernel,rfl,by decide +kernel,by decide +kernel⟩
abbrev ZaJ:Stmt:=(defBody Za5).getD 4 (.Pass ⟨0,0,0,0⟩)
theorem Zez:FnScopeF ["pair", "code", "one", "one_codes", "other", "other_codes"] ["pair", "code"] (defScope ZaJ):=⟨rfl,rfl,rfl,by decide +kernel,rfl,by decide +kernel⟩
theorem Zed:capOk ["base", "one", "one_names", "other", "other_names", "sign", "names", "one_codes", "other_codes", "lead", "pair_sign"] (defScope Za5) (defScope ZaJ) ["pair", "code", "one", "one_codes", "other", "other_codes"] [none,none,some 1,some 7,some 3,some 8]=true:=by decide +kernel
theorem ZeA:∀ y∈(defScope ZaJ).names,y.2=.free->(defScope Za5).names.lookup y.1=some .cell\/(defScope Za5).names.lookup y.1=some .free:=by decide +kernel
abbrev Zar:Stmt:=(defBody Za5).getD 5 (.Pass ⟨0,0,0,0⟩)
theorem ZcZ:FnScopeF ["pair", "sign", "one", "other"] ["pair"] (defScope Zar):=⟨rfl,rfl,rfl,by decide +kernel,rfl,by decide +kernel⟩
theorem ZcG:capOk ["base", "one", "one_names", "other", "other_names", "sign", "names", "one_codes", "other_codes", "lead", "pair_sign"] (defScope Za5) (defScope Zar) ["pair", "sign", "one", "other"] [none,some 5,some 1,some 3]=true:=by decide +kernel
theorem Zc0:∀ y∈(defScope Zar).names,y.2=.free->(defScope Za5).names.lookup y.1=some .cell\/(defScope Za5).names.lookup y.1=some .free:=by decide +kernel
abbrev ZbG:Stmt:=top 34
theorem Za6:FnScope ["base", "names", "rest", "codes", "code", "within"] ["base", "names", "rest"] (defScope ZbG):=⟨rfl,rfl,rfl,by decide +kernel,rfl,by decide +kernel,by decide +kernel⟩
abbrev Zc1:Stmt:=top 35
theorem Zcr:FnScope ["rows", "rooms", "codes", "led", "code"] ["rows", "rooms", "codes"] (defScope Zc1):=⟨rfl,rfl,rfl,by decide +kernel,rfl,by decide +kernel,by decide +kernel⟩
abbrev Zb4:Stmt:=top 36
theorem Za2:FnScope ["rows", "codes", "rooms", "led"] ["rows", "codes"] (defScope Zb4):=⟨rfl,rfl,rfl,by decide +kernel,rfl,by decide +kernel,by decide +kernel⟩
abbrev Zbp:Stmt:=top 37
theorem Za8:FnScope ["relation", "name", "sign", "base", "names", "rows", "rest", "codes", "lead"] ["relation", "name", "sign"] (defScope Zbp):=⟨rfl,rfl,rfl,by decide +kernel,rfl,by decide +kernel,by decide +kernel⟩
abbrev ZaF:Stmt:=(defBody Zbp).getD 5 (.Pass ⟨0,0,0,0⟩)
theorem Zee:FnScopeF ["rooms", "code", "rows", "codes"] ["rooms", "code"] (defScope ZaF):=⟨rfl,rfl,rfl,by decide +kernel,rfl,by decide +kernel⟩
theorem ZdN:capOk ["relation", "name", "sign", "base", "names", "rows", "rest", "codes", "lead"] (defScope Zbp) (defScope ZaF) ["rooms", "code", "rows", "codes"] [none,none,some 5,some 7]=true:=by decide +kernel
theorem Zef:∀ y∈(defScope ZaF).names,y.2=.free->(defScope Zbp).names.lookup y.1=some .cell\/(defScope Zbp).names.lookup y.1=some .free:=by decide +kernel
abbrev ZdG:Stmt:=top 38
theorem Zfv:FnScope ["relation", "name", "signs", "sign"] ["relation", "name"] (defScope ZdG):=⟨rfl,rfl,rfl,by decide +kernel,rfl,by decide +kernel,by decide +kernel⟩
abbrev ZaT:Stmt:=(defBody ZdG).getD 2 (.Pass ⟨0,0,0,0⟩)
theorem Zgj:FnScopeF ["rooms", "signs"] ["rooms"] (defScope ZaT):=⟨rfl,rfl,rfl,by decide +kernel,rfl,by decide +kernel⟩
theorem Zfw:capOk ["relation", "name", "signs", "sign"] (defScope ZdG) (defScope ZaT) ["rooms", "signs"] [none,some 2]=true:=by decide +kernel
theorem Zgk:∀ y∈(defScope ZaT).names,y.2=.free->(defScope ZdG).names.lookup y.1=some .cell\/(defScope ZdG).names.lookup y.1=some .free:=by decide +kernel
abbrev Zcs:Stmt:=top 39
theorem ZdV:FnScope ["relation", "name", "signs", "sign"] ["relation", "name"] (defScope Zcs):=⟨rfl,rfl,rfl,by decide +kernel,rfl,by decide +kernel,by decide +kernel⟩
abbrev ZaM:Stmt:=(defBody Zcs).getD 2 (.Pass ⟨0,0,0,0⟩)
theorem Zfx:FnScopeF ["rooms", "signs"] ["rooms"] (defScope ZaM):=⟨rfl,rfl,rfl,by decide +kernel,rfl,by decide +kernel⟩
theorem ZeB:capOk ["relation", "name", "signs", "sign"] (defScope Zcs) (defScope ZaM) ["rooms", "signs"] [none,some 2]=true:=by decide +kernel
theorem Zfy:∀ y∈(defScope ZaM).names,y.2=.free->(defScope Zcs).names.lookup y.1=some .cell\/(defScope Zcs).names.lookup y.1=some .free:=by decide +kernel
abbrev Zfz:Stmt:=top 41
theorem ZjI:FnScope ["one", "other", "sign"] ["one", "other", "sign"] (defScope Zfz):=⟨rfl,rfl,rfl,by decide +kernel,rfl,by decide +kernel,by decide +kernel⟩
abbrev ZdH:Stmt:=top 42
theorem ZgQ:FnScope ["one", "other", "sign"] ["one", "other"] (defScope ZdH):=⟨rfl,rfl,rfl,by decide +kernel,rfl,by decide +kernel,by decide +kernel⟩
abbrev ZaU:Stmt:=(defBody ZdH).getD 0 (.Pass ⟨0,0,0,0⟩)
theorem Zgl:FnScopeF ["one_sign", "other_sign"] ["one_sign", "other_sign"] (defScope ZaU):=⟨rfl,rfl,rfl,by decide +kernel,rfl,by decide +kernel⟩
theorem ZfA:capOk ["one", "other", "sign"] (defScope ZdH) (defScope ZaU) ["one_sign", "other_sign"] [none,none]=true:=by decide +kernel
theorem Zgm:∀ y∈(defScope ZaU).names,y.2=.free->(defScope ZdH).names.lookup y.1=some .cell\/(defScope ZdH).names.lookup y.1=some .free:=by decide +kernel
abbrev ZbR:Stmt:=top 43
theorem Zeg:FnScope ["one", "other", "sign"] ["one", "other"] (defScope ZbR):=⟨rfl,rfl,rfl,by decide +kernel,rfl,by decide +kernel,by decide +kernel⟩
abbrev ZaK:Stmt:=(defBody ZbR).getD 0 (.Pass ⟨0,0,0,0⟩)
theorem ZeC:FnScopeF ["one_sign", "other_sign"] ["one_sign", "other_sign"] (defScope ZaK):=⟨rfl,rfl,rfl,by decide +kernel,rfl,by decide +kernel⟩
theorem Zeh:capOk ["one", "other", "sign"] (defScope ZbR) (defScope ZaK) ["one_sign", "other_sign"] [none,none]=true:=by decide +kernel
theorem ZeD:∀ y∈(defScope ZaK).names,y.2=.free->(defScope ZbR).names.lookup y.1=some .cell\/(defScope ZbR).names.lookup y.1=some .free:=by decide +kernel
abbrev s_no:Stmt:=top 44
theorem Zok:FnScope ["one", "machine"] ["one"] (defScope s_no):=⟨rfl,rfl,rfl,by decide +kernel,rfl,by decide +kernel,by decide +kernel⟩
abbrev ZdB:Stmt:=top 46
theorem Zc2:FnScope ["_law_script", "_law_k", "_law_cell_here"] ["_law_script", "_law_k"] (defScope ZdB):=⟨rfl,rfl,rfl,by decide +kernel,rfl,by decide +kernel,by decide +kernel⟩
abbrev Zc3:Stmt:=top 47
theorem ZaN:FnScope ["_law_script", "_law_at", "_law_rooms", "_law_letters", "_law_last", "_law_rows", "_law_signs", "_law_room", "_law_cell_here", "_law_row", "_law_letter", "_law_mix"] ["_law_script", "_law_at", "_law_rooms", "_law_letters", "_law_last"] (defScope Zc3):=⟨rfl,rfl,rfl,by decide +kernel,rfl,by decide +kernel,by decide +kernel⟩
abbrev Zla:Stmt:=top 48
theorem ZeY:FnScope ["_law_script", "_law_base", "_law_names", "_law_name", "_law_one", "_law_other"] ["_law_script"] (defScope Zla):=⟨rfl,rfl,rfl,by decide +kernel,rfl,by decide +kernel,by decide +kernel⟩
def ZaE:Addr:=96
def Zb5(l c:Nat):Str:=if l=(posOf Zas).line/\c=(posOf Zas).col then "reached_by.<locals>.lead" else if l=(posOf Zat).line/\c=(posOf Zat).col then "reached_by.<locals>.sign" else ""
def Zbc:Addr:=206
def Zei(l c:Nat):Str:=if l=(posOf ZaJ).line/\c=(posOf ZaJ).col then "paired.<locals>.lead" else if l=(posOf Zar).line/\c=(posOf Zar).col then "paired.<locals>.pair_sign" else ""
def Zbj:Addr:=230
def ZeZ(l c:Nat):Str:=if l=(posOf ZaF).line/\c=(posOf ZaF).col then "without.<locals>.lead" else ""
def Zc4:Addr:=235
def ZjJ(l c:Nat):Str:=if l=(posOf ZaT).line/\c=(posOf ZaT).col then "some.<locals>.sign" else ""
def Zb6:Addr:=242
def ZhG(l c:Nat):Str:=if l=(posOf ZaM).line/\c=(posOf ZaM).col then "every.<locals>.sign" else ""
def Zc5:Addr:=256
def ZjK(l c:Nat):Str:=if l=(posOf ZaU).line/\c=(posOf ZaU).col then "both.<locals>.sign" else ""
def ZbH:Addr:=263
def Zgn(l c:Nat):Str:=if l=(posOf ZaK).line/\c=(posOf ZaK).col then "either.<locals>.sign" else ""
def ts0:List (Addr×(Nat->Nat->Str)):=[(ZaE,Zb5),(Zbc,Zei),(Zbj,ZeZ),(Zc4,ZjJ),(Zb6,ZhG),(Zc5,ZjK),(ZbH,Zgn)]
structure Txt(K:W.Frag)(mg:Str->Option Value):Prop where
 g_LEAST_BASE:∃ t,mg "LEAST_BASE" = some (.int 2 t)
 g_GREATEST_BASE:∃ t,mg "GREATEST_BASE" = some (.int 5 t)
 g_MOST_ROOMS:∃ t,mg "MOST_ROOMS" = some (.int 100 t)
 g_MOST_LETTERS:∃ t,mg "MOST_LETTERS" = some (.int 64 t)
 g_MOST_NAMES:∃ t,mg "MOST_NAMES" = some (.int 4 t)
 n_enumerate:mg "enumerate" = none
 n_len:mg "len" = none
 n_max:mg "max" = none
 n_min:mg "min" = none
 n_range:mg "range" = none
 n_set:mg "set" = none
 n_sorted:mg "sorted" = none
 n_tuple:mg "tuple" = none
 x_met_from:Tx K mg "met_from" ZdA ["start", "letters", "lead", "most"] [[]]
 x_machine_met:Tx K mg "machine_met" Zb1 ["start", "letters", "lead", "sign", "most"] [[]]
 x_reached_by:∃ c0,TxM K mg "reached_by" Zau ["machine", "stands"] c0 ZaE
 x_first_equals:Tx K mg "first_equals" ZbS ["things"] [[]]
 x_parted:Tx K mg "parted" Zfr ["rows", "alike"] [[]]
 x_first_alike:Tx K mg "first_alike" Zb2 ["machine"] [[]]
 x_least:Tx K mg "least" ZgP ["machine"] [[]]
 x_least_met:Tx K mg "least_met" ZcX ["start", "letters", "lead", "sign", "most"] [[]]
 x_want_base:Tx K mg "want_base" ZcY ["base"] [[]]
 x_figures_of:Tx K mg "figures_of" Zbn ["place", "base"] [[],[.int 2]]
 x_number_of:Tx K mg "number_of" ZbE ["figures", "base"] [[],[.int 2]]
 x_filled:Tx K mg "filled" Zfs ["figures", "length"] [[]]
 x_code_of:Tx K mg "code_of" Zcp ["column", "base"] [[],[.int 2]]
 x_column_of:Tx K mg "column_of" ZbF ["code", "many", "base"] [[],[.int 2]]
 x_letters_for:Tx K mg "letters_for" Zb3 ["base", "names"] [[]]
 x_rising:Tx K mg "rising" Zft ["names"] [[]]
 x_want_width:Tx K mg "want_width" Zcq ["base", "names"] [[]]
 x_codes_within:Tx K mg "codes_within" ZbT ["base", "names", "part"] [[]]
 x_paired:∃ c0,TxM K mg "paired" Za5 ["base", "one", "one_names", "other", "other_names", "sign"] c0 Zbc
 x_codes_by_rest:Tx K mg "codes_by_rest" ZbG ["base", "names", "rest"] [[]]
 x_led_rooms:Tx K mg "led_rooms" Zc1 ["rows", "rooms", "codes"] [[]]
 x_first_rooms:Tx K mg "first_rooms" Zb4 ["rows", "codes"] [[]]
 x_without:∃ c0,TxM K mg "without" Zbp ["relation", "name", "sign"] c0 Zbj
 x_some:∃ c0,TxM K mg "some" ZdG ["relation", "name"] c0 Zc4
 x_every:∃ c0,TxM K mg "every" Zcs ["relation", "name"] c0 Zb6
 x_joined:Tx K mg "joined" Zfz ["one", "other", "sign"] [[]]
 x_both:∃ c0,TxM K mg "both" ZdH ["one", "other"] c0 Zc5
 x_either:∃ c0,TxM K mg "either" ZbR ["one", "other"] c0 ZbH
 x_no:Tx K mg "no" s_no ["one"] [[]]
 x_law_cell:Tx K mg "_law_cell" ZdB ["_law_script", "_law_k"] [[]]
 x_law_drawn:Tx K mg "_law_drawn" Zc3 ["_law_script", "_law_at", "_law_rooms", "_law_letters", "_law_last"] [[]]
local macro_rules | `(tactic| walk_at "sd") => `(tactic| first
 | (show (0 : Int) < _; omega)
 | (refine ⟨?_, ?_⟩ <;> omega)
 | exact Or.inl ⟨by omega, by omega⟩
 | exact Or.inr ⟨by omega, by omega⟩
 | exact ⟨by decide, by decide, by decide⟩)
local macro_rules | `(tactic| walk_at "nrs") => `(tactic| (repeat (first | exact NRs.nil | refine NRs.cons (by first | exact NR.av | exact NR.bor) ?_)))
local macro_rules | `(tactic| walk_at "v0") => `(tactic| first | walk_at "v0i" | (with_reducible refine s_if ?_))
local macro_rules | `(tactic| walk_at "v0i") => `(tactic| with_reducible first
 | refine Zpv ?_ | refine Zo1 ?_ | refine Zo3 ?_ | refine Zl8 ?_ | refine ZlA ?_ | refine Zn0 ?_
 | refine ZnC ?_ | refine ZnD ?_ | refine Zpw ?_ | refine ZnE ?_ | refine Zo2 ?_ | refine ne_i ?_
 | refine Zl9 ?_ | refine Zo4 ?_ | refine Zhp ?_
 | refine v_b ?_ | refine v_s ?_ | refine ZpA ?_ | refine ZpE ?_ | refine Zmp ?_ | refine ZpB ?_ | refine iteF ?_ | refine iteNT ?_ | refine iteNF ?_)
local macro_rules | `(tactic| walk_at "v1") => `(tactic| with_reducible first
 | refine Zo5 ?_ | refine Zo6 ?_ | refine Zo9 ?_ | refine Zpb ?_ | refine Zpe ?_ | refine Zph ?_ | refine Zpk ?_ | refine Zpn ?_ | refine Zpq ?_ | refine Zps ?_ | refine ZnX ?_ | refine ZnY ?_
 | refine Zo7 ?_ | refine Zpc ?_ | refine Zpf ?_ | refine Zpi ?_ | refine Zpl ?_ | refine Zpo ?_
 | refine Zo8 ?_ | refine Zpa ?_ | refine Zpd ?_ | refine Zpg ?_ | refine Zpj ?_ | refine Zpm ?_ | refine Zpp ?_ | refine Zpr ?_ | refine Zpt ?_ | refine ZnZ ?_
 | refine gv_0 ?_ | refine gv_1 ?_ | refine gv_2 ?_ | refine gv_3 ?_ | refine gv_4 ?_ | refine gv_5 ?_ | refine gv_7 ?_ | refine gv_8 ?_ | refine Zpu ?_
 | refine ZnO ?_ | refine ZnS ?_ | refine ZnU ?_ | refine ZnV ?_ | refine ZnW ?_
 | refine ZnQ ?_
 | refine ZnN ?_ | refine ZnP ?_ | refine ZnR ?_ | refine ZnT ?_
 | refine ZpF ?_ | refine ZpJ ?_
 | refine ZpG ?_ | refine ZpH ?_ | refine ZpI ?_ | refine ZpK ?_ | refine ZpL ?_ | refine ZpM ?_ | refine Zob ?_
 )
local macro_rules | `(tactic| walk_at "v") => `(tactic| first | walk_at "v0" | walk_at "v1" | (with_reducible refine ZlB ?_) | (with_reducible refine Zn1 ?_) | (refine op_i ?c ?_; (case c => walk_at "sd")) | (refine Zn4 ?c ?_; (case c => walk_at "sd")))
local macro_rules | `(tactic| walk_at "vs") => `(tactic| repeat walk_at "v")
local macro_rules | `(tactic| walk_at "vm") => `(tactic| repeat (first | walk_at "v" | refine ix_T rfl rfl Item.d ?_))
local macro_rules | `(tactic| walk_at "vj") => `(tactic| first | walk_at "v0i" | walk_at "v1" | (with_reducible refine ZlB ?_) | (with_reducible refine Zn1 ?_) | (refine op_i ?c ?_; (case c => walk_at "sd")) | (refine Zn4 ?c ?_; (case c => walk_at "sd")))
local macro_rules | `(tactic| walk_at "vi") => `(tactic| repeat (first | walk_at "vj" | refine ix_T rfl rfl Item.d ?_))
section
variable [Tabs]{P:Program}{w:World}{K:W.Frag}{mg:Str->Option Value}{base:Heap}
abbrev oI(ns:List Int):AV:=.own (ns.map λk=>.d (.int k))
theorem Zbk(ns:List Int):(oI ns).data=dI ns:=by rw[AV.data,Zaw];rfl
theorem Ziv(ns:List Int):AV.datas (ns.map λk=>.d (.int k))=ns.map PyData.int:=Zaw ns PyData.int
theorem ZbB(ns:List Int):(oI ns).clean=true:=ZaH λ_=>rfl
theorem Zgo(ns:List Int):(ns.map PyData.int).map AV.d=ns.map λk=>.d (.int k):=by rw[List.map_map];rfl
abbrev oL(rows:List (List Int)):AV:=.own (rows.map oI)
theorem ZjL(rows:List (List Int)):(oL rows).data=dRows rows:=by
 rw[ZdU]
 unfold dRows
 congr 1
 exact List.map_congr_left λr _=>Zbk r
theorem Zc6(c:List Int):noLst (tI c)=true:=by simp[tI,noLst,ZaB]
structure Mach where
 rows:List (List Int)
 signs:List Int
deriving DecidableEq
abbrev tR(rows:List (List Int)):PyData:=.tuple (rows.map tI)
abbrev dM(M:Mach):PyData:=.tuple [tR M.rows,tI M.signs]
structure Good(r l m:Int)(M:Mach):Prop where
 r0:0<r
 l0:0<l
 n:(M.rows.length:Int)=r
 row:∀ x∈M.rows,(x.length:Int)=l/\∀ y∈x,0<=y/\y<r
 s:(M.signs.length:Int)=r
 sg:∀ x∈M.signs,0<=x/\x<m
 z:(M.rows.getD 0 []).getD 0 0=0
theorem ZmO(rows:List (List Int)):noLst (tR rows)=true:=by
 simp only[tR,noLst]
 exact ZaW (λa=>Zc6 a) rows
theorem Zct(M:Mach):noLst (dM M)=true:=by
 have h:=ZmO M.rows
 simp only[noLst,noLsts,Bool.and_true,Bool.and_eq_true] at h ⊢
 exact⟨h,ZaB _⟩
theorem Mach.enc:Enc dM 3:=by
 have h:=(Enc.int.tuple.tuple).pair (Enc.int.tuple.mono (show 1<=2 by decide))
 refine⟨λa b=>?_,λa=>h.lay (a.rows,a.signs),λa=>h.dep (a.rows,a.signs)⟩
 refine (h.eqv (a.rows,a.signs) (b.rows,b.signs)).trans ⟨λe=>?_,λe=>by rw[e]⟩
 obtain⟨r1,s1⟩:=a
 obtain⟨r2,s2⟩:=b
 simp only[Prod.mk.injEq] at e
 rw[e.1,e.2]
def PostI(n:Int)(c:AV):Prop:=∃ r:Int,c=.d (.int r)/\0<=r/\r<n
theorem ZmP(rows:List (List Int))(row:List Int):(AV.own (rows.map oI++[oI row]))=oL (rows++[row]):=by rw[oL,List.map_append];rfl
theorem ZgR(row:List Int)(x:Int):AV.own ((row.map λk=>.d (.int k))++[.d (.int x)])=oI (row++[x]):=by rw[oI,List.map_append];rfl
theorem ZgS{x:List Int}{y:Int}{i:Nat}{v:Int}(h:y∈x.set i v):y∈x\/y=v:=List.mem_or_eq_of_mem_set h
theorem Zb7{ns:List Int}{k:Int}(h0:0<=k)(h:k<ns.length):atI (ns.map PyData.int) k=some (.int (ns.getD k.toNat 0)):=by
 have e:k.toNat<ns.length:=by omega
 exact Zf4 h0 (by rw[List.getElem?_map,List.getElem?_eq_getElem e,List.getD_eq_getElem?_getD,List.getElem?_eq_getElem e];rfl)
theorem ZfB{rows:List (List Int)}{k:Int}(h0:0<=k)(h:k<rows.length):atI (rows.map tI) k=some (tI (rows.getD k.toNat [])):=by
 have e:k.toNat<rows.length:=by omega
 exact Zf4 h0 (by rw[List.getElem?_map,List.getElem?_eq_getElem e,List.getD_eq_getElem?_getD,List.getElem?_eq_getElem e];rfl)
def Mach.lt(M:Mach):Nat:=(M.rows.getD 0 []).length
theorem ZdW{ns:List Int}{k:Int}(h0:0<=k)(h:k<ns.length):atI (ns.map PyData.int) k=some (.int (ns.getD k.toNat 0)):=by
 have e:k.toNat<ns.length:=by omega
 exact Zf4 h0 (by rw[List.getElem?_map,List.getElem?_eq_getElem e,List.getD_eq_getElem?_getD,List.getElem?_eq_getElem e];rfl)
theorem Zaq{α:Type}{xs:List α}{i:Nat}{d:α}(h:i<xs.length):xs.getD i d∈xs:=by
 rw[List.getD_eq_getElem?_getD,List.getElem?_eq_getElem h];exact List.getElem_mem h
structure Parts(a b:Int)(M:Mach):Prop where
 n0:0<M.rows.length
 n1:M.rows.length<=100
 s:M.signs.length=M.rows.length
 row:∀ x∈M.rows,x.length=(M.rows.getD 0 []).length/\∀ y∈x,0<=y/\y<M.rows.length
 l0:a<=((M.rows.getD 0 []).length:Int)
 l1:((M.rows.getD 0 []).length:Int)<=b
 sg:∀ x∈M.signs,0<=x/\x<=9
theorem Good.parts{r l m:Int}{M:Mach}(h:Good r l m M)(h1:r<=100)(h2:l<=64)(h3:m<=10):Parts 1 64 M:=by
 have n0:0<M.rows.length:=by have:=h.n;have:=h.r0;omega
 have hl:((M.rows.getD 0 []).length:Int)=l:=(h.row _ (Zaq n0)).1
 refine⟨n0,by have:=h.n;omega,by have:=h.n;have:=h.s;omega,λx hx=>⟨by have:=(h.row x hx).1;omega,λy hy=>?_⟩,by have:=h.l0;omega,by omega,λx hx=>?_⟩
 ·have:=(h.row x hx).2 y hy;have:=h.n;omega
 ·have:=h.sg x hx;omega
def stp(rows:List (List Int))(r l:Int):Int:=(rows.getD r.toNat []).getD l.toNat 0
theorem Parts.stp{a b:Int}{M:Mach}(h:Parts a b M){r l:Int}(h0:0<=r)(h1:r<M.rows.length)(l0:0<=l)(l1:l<(M.rows.getD 0 []).length):0<=stp M.rows r l/\stp M.rows r l<M.rows.length:=by
 have hr:r.toNat<M.rows.length:=by omega
 have hx:=h.row _ (Zaq (d:=[]) hr)
 exact hx.2 _ (Zaq (by rw[hx.1];omega))
section
variable {α:Type}[DecidableEq α]
def addM(met:List α)(x:α):List α:=if x∈met then met else met++[x]
def growM(g:α->Nat->α)(a:α)(met:List α)(n:Nat):List α:=(List.range n).foldl (λm l=>addM m (g a l)) met
theorem ZaL(g:α->Nat->α)(a:α)(met:List α)(n:Nat):growM g a met (n+1)=addM (growM g a met n) (g a n):=by
 unfold growM;rw[List.range_succ,List.foldl_append];rfl
inductive Bfs(g:α->Nat->α)(n:Nat):List α->Nat->List α->Prop
 | done {met:List α} {i:Nat}:met.length<=i->Bfs g n met i met
 | step {met F:List α} {i:Nat} (h:i<met.length):Bfs g n (growM g met[i] met n) (i+1) F->Bfs g n met i F
theorem Bfs.det{g:α->Nat->α}{n:Nat}{met F F':List α}{i:Nat}(h:Bfs g n met i F):Bfs g n met i F'->F=F':=by
 induction h with
 | done h=>intro h';cases h' with
  | done _=>rfl
  | step h2 _=>omega
 | step h _ ih=>intro h';cases h' with
  | done h2=>omega
  | step _ h2=>exact ih h2
theorem ZdX(met:List α)(x:α):∃ r,addM met x=met++r:=by
 unfold addM;split
 ·exact⟨[],by simp⟩
 ·exact⟨[x],rfl⟩
theorem ZfC(met:List α)(x:α):x∈addM met x:=by
 unfold addM;split
 ·assumption
 ·simp
theorem ZmQ{met:List α}{x:α}(h:met.Nodup):(addM met x).Nodup:=by
 unfold addM;split
 ·exact h
 ·rename_i hx
  rw[List.nodup_append]
  exact⟨h,by simp,λa ha b hb=>by rw[List.mem_singleton.mp hb];exact λz=>hx (z▸ha)⟩
theorem ZjM{met U:List α}{x:α}(h:∀ y∈met,y∈U)(hx:x∈U):∀ y∈addM met x,y∈U:=by
 unfold addM;split
 ·exact h
 ·intro y hy
  rcases List.mem_append.mp hy with hy|hy
  ·exact h y hy
  ·rw[List.mem_singleton.mp hy];exact hx
theorem ZbX(g:α->Nat->α)(a:α)(met:List α):∀ n,∃ r,growM g a met n=met++r
 | 0=>⟨[],by simp[growM]⟩
 | n+1=>by
  obtain⟨r,e⟩:=ZbX g a met n
  obtain⟨r',e'⟩:=ZdX (growM g a met n) (g a n)
  rw[ZaL,e',e]
  exact⟨r++r',by simp⟩
theorem Bfs.pre{g:α->Nat->α}{n:Nat}{met F:List α}{i:Nat}(h:Bfs g n met i F):∃ r,F=met++r:=by
 induction h with
 | done _=>exact⟨[],by simp⟩
 | @step met F i h _ ih =>
  obtain⟨r,e⟩:=ih
  obtain⟨r',e'⟩:=ZbX g met[i] met n
  exact⟨r'++r,by rw[e,e',List.append_assoc]⟩
theorem ZjN{met r:List α}{x:α}(h:x∈met):(met++r).idxOf x=met.idxOf x:=by
 rw[List.idxOf_append,if_pos h]
theorem Zbq{met U:List α}(nd:met.Nodup)(h:∀ x∈met,x∈U):met.length<=U.length:=by
 induction met generalizing U with
 | nil=>simp
 | cons a met ih =>
  rw[List.nodup_cons] at nd
  have h1:=ih (U:=U.erase a) nd.2 λx hx=>(List.mem_erase_of_ne (λ(z:x=a)=>nd.1 (z▸hx))).mpr (h x (.tail _ hx))
  have h2:=List.length_erase_of_mem (h a (.head _))
  have h3:0<U.length:=List.length_pos_of_mem (h a (.head _))
  simp only[List.length_cons]
  omega
def rowN(g:α->Nat->α)(F:List α)(a:α)(n:Nat):List Int:=(List.range n).map λl=>(F.idxOf (g a l):Int)
theorem ZjO(g:α->Nat->α)(F:List α)(a:α)(n:Nat):rowN g F a (n+1)=rowN g F a n++[(F.idxOf (g a n):Int)]:=by
 unfold rowN;rw[List.range_succ,List.map_append];rfl
theorem ZhH{g:α->Nat->α}{met r:List α}{a:α}{n:Nat}(h:∀ l,l<n->g a l∈met):rowN g (met++r) a n=rowN g met a n:=by
 unfold rowN
 refine List.map_congr_left λl hl=>?_
 rw[ZjN (h l (List.mem_range.mp hl))]
def numK(met:List α):List (α×PyData):=met.zipIdx.map λp=>(p.1,PyData.int (p.2:Int))
theorem ZjP(met:List α)(x:α):numK (met++[x])=numK met++[(x,.int (met.length:Int))]:=by
 unfold numK;rw[List.zipIdx_append,List.map_append];simp
theorem Zgp(x:α):∀ (met:List α) (k:Nat),getA ((met.zipIdx k).map λp=>(p.1,PyData.int (p.2:Int))) x=if x∈met then some (.int ((k+met.idxOf x:Nat):Int)) else none
 | [],_=>rfl
 | y::met,k=>by
  rw[List.zipIdx_cons,List.map_cons]
  have ih:=Zgp x met (k+1)
  unfold getA at ih ⊢
  rw[List.find?_cons]
  by_cases h:y=x
  ·subst h
   simp[List.idxOf_cons]
  ·have h1:decide (y=x)=false:=decide_eq_false h
   simp only[h1]
   rw[ih]
   have h2:(y == x)=false:=beq_false_of_ne h
   by_cases hx:x∈met
   ·rw[if_pos hx,if_pos (.tail _ hx),List.idxOf_cons,h2]
    simp only[cond_false]
    congr 3
    omega
   ·rw[if_neg hx,if_neg (by simp[hx,Ne.symm h])]
theorem ZfD(met:List α)(x:α):getA (numK met) x=if x∈met then some (.int (met.idxOf x:Int)) else none:=by
 have:=Zgp x met 0
 rw[Nat.zero_add] at this
 exact this
theorem Zlb{met:List α}{x:α}(h:x∉met):putA (numK met) x (.int (met.length:Int))=numK (met++[x]):=by
 unfold putA;rw[ZfD,if_neg h,ZjP];rfl
end
structure Th(α:Type) where
 start:α
 n:Nat
 m:Int
 g:α->Nat->α
 U:List α
structure Th.Ok{α:Type}(θ:Th α):Prop where
 mem:θ.start∈θ.U
 cl:∀ x∈θ.U,∀ l,l<θ.n->θ.g x l∈θ.U
 um:(θ.U.length:Int)<=θ.m
 n1:θ.n<=1000
 u1:θ.U.length<=1000
def PreL{α:Type}(e:α->PyData)(θ:Th α)(cs:List AV):Prop:=∃ (x:α) (l:Nat),cs=[.d (e x),.d (.int l)]/\x∈θ.U/\l<θ.n
def PostL{α:Type}(e:α->PyData)(θ:Th α)(cs:List AV)(c:AV):Prop:=∃ (x:α) (l:Nat),cs=[.d (e x),.d (.int l)]/\c=.d (e (θ.g x l))
def ZjQ{α:Type}(P:Program)(w:World)(K:W.Frag)(mg:Str->Option Value)(base:Heap)(e:α->PyData)(θ:Th α)(cs:List AV):Prop :=
 θ.Ok/\cs=[.d (e θ.start),.d (.int θ.n),.obj (CloOk P w K mg base CX0 2 (spR K (PreL e θ) (PostL e θ) NP)),.d (.int θ.m)]
def dMet{α:Type}[DecidableEq α](e:α->PyData)(θ:Th α)(F:List α):PyData:=.tuple [.list (F.map e),.tuple ((F.map λa=>rowN θ.g F a θ.n).map tI)]
def ZhI{α:Type}[DecidableEq α](e:α->PyData)(θ:Th α)(_:List AV)(c:AV):Prop:=∃ F,Bfs θ.g θ.n [θ.start] 0 F/\F.Nodup/\(∀ x∈F,x∈θ.U)/\c=.d (dMet e θ F)
abbrev oE{α:Type}(e:α->PyData)(xs:List α):AV:=.own (xs.map λx=>.d (e x))
theorem Zej{α:Type}(e:α->PyData)(xs:List α):(oE e xs).data=.list (xs.map e):=by rw[AV.data,Zaw]
theorem ZpN{α:Type}{e:α->PyData}{xs:List α}{i:Nat}(h:i<xs.length):atI (xs.map e) (i:Int)=some (e xs[i]) :=
 Zf4 (by omega) (by rw[Int.toNat_natCast,List.getElem?_map,List.getElem?_eq_getElem h];rfl)
structure MetI{α:Type}[DecidableEq α](θ:Th α)(met:List α)(i:Nat):Prop where
 nd:met.Nodup
 u:∀ x∈met,x∈θ.U
 all:∀ j (h:j<met.length),j<i->∀ l,l<θ.n->θ.g met[j] l∈met
 bf:∀ F,Bfs θ.g θ.n met i F->Bfs θ.g θ.n [θ.start] 0 F
 le:i<=met.length
theorem ZgT(T:Txt K mg){α:Type}[DecidableEq α]{e:α->PyData}(F:KEnc e)(hj:∀ a b,e a=e b->a=b)(hf:∀ x,noLst (e x)=true) :
  Cal P w K mg base CX0 3 "met_from" ["start", "letters", "lead", "most"] [] (spF K (ZjQ P w K mg base e) (ZhI e)):=by
 refine valRF T.x_met_from Za7 (λθ cs ⟨_,e⟩=>by rw[e];rfl) (λθ f cdv A outer s H E hr=>?_) [] (by simp)
 refine⟨_,(Zac (Zal (i:=4) Za7.nd rfl (Or.inl rfl) (Zcb (Zaa (pv 0) Zab)))
   (Zac (ZmB (i:=5) Za7.nd rfl (Or.inl rfl) (ZkW hr.units (pv 0) Zae))
   (Zac (Zal (i:=6) Za7.nd rfl (Or.inl rfl) (Zcb Zab))
   (Zac (ZdR PassesOwn.never (ZaA Zkv (Zaz (ZaC (K:=K) rfl) rfl T.n_len PySem.boot_len (Zaa (pv 6) Zab)) (Zaz (ZaC (K:=K) rfl) rfl T.n_len PySem.boot_len (Zaa (pv 4) Zab)) (nomark _))
    (Zac (Zal (i:=7) Za7.nd rfl (Or.inl rfl) (Zcb Zab))
    (Zac (ZcI PassesOwn.never rfl (Zcf rfl T.n_range (Zaa (pv 1) Zab)) (Zav (i:=8) Za7.nd rfl (Or.inl rfl))
     (Zac (Zal (i:=9) Za7.nd rfl (Or.inl rfl) (Zeb (CX:=CX0) (P:=P) (w:=w) (K:=K) (mg:=mg) (base:=base) (i:=2) (k:=2) rfl rfl rfl rfl rfl (hr.mono (by decide)) pass0 (Zaa (Zao (Zag (K:=K) rfl hr.units) (pv 4) (Zaz (ZaC (K:=K) rfl) rfl T.n_len PySem.boot_len (Zaa (pv 6) Zab)) (λ_ _=>rfl)) (Zaa (pv 8) Zab))))
     (Zac (Zhs (ZaA (Zci (K:=K) rfl hr.units) (pv 9) (pv 5) (by with_unfolding_all rfl))
      (Zac (Zhg (Zaz (ZaC (K:=K) rfl) rfl T.n_len PySem.boot_len (Zaa (pv 4) Zab)) (Zhf (pv 5) (pv 9) (Zfb hr.units)))
      (Zaf (Za9 (ZcK (K:=K) rfl PySem.F.plainAttrs_list PySem.F.slot_list_append PySem.F.type_list_append Za0 (pv 4) (Zaa (pv 9) Zab)))))
      ZaY)
     (Zaf (Za9 (ZcK (K:=K) rfl PySem.F.plainAttrs_list PySem.F.slot_list_append PySem.F.type_list_append Za0 (pv 7) (Zaa (Zao (Zag (K:=K) rfl hr.units) (pv 5) (pv 9) (λ_ _=>rfl)) Zab)))))))
    (Zac (Za9 (ZcK (K:=K) rfl PySem.F.plainAttrs_list PySem.F.slot_list_append PySem.F.type_list_append Za0 (pv 6) (Zaa (ZaD (ZaQ (K:=K) rfl) rfl T.n_tuple PyProof.Rows.boot_tuple (Zaa (pv 7) Zab)) Zab)))
    (Zaf (Zdv (ZaA ZiM (Zaz (ZaC (K:=K) rfl) rfl T.n_len PySem.boot_len (Zaa (pv 4) Zab)) (pv 3) (nomark _))
     (Zaf ZdQ)
     ZaY))))))
   (Zaf (Zap (ZbM (Zaa (pv 4) (Zaa (ZaD (ZaQ (K:=K) rfl) rfl T.n_tuple PyProof.Rows.boot_tuple (Zaa (pv 6) Zab)) Zab))))))))),?_⟩
 rintro cs ⟨ok,rfl⟩
 show Sv K _ _ _ [some (.d (e θ.start)),some (.d (.int θ.n)),some (.obj (CloOk P w K mg base CX0 2 (spR K (PreL e θ) (PostL e θ) NP))),some (.d (.int θ.m)),none,none,none,none,none,none] _
 walk_at "vi"
 refine Zho ?_
 walk_at "vi"
 refine⟨[.d (e θ.start)],.cons rfl .nil,by show 1<=1000;decide,?_⟩
 walk_at "vi"
 refine ZkX F ?hn ?_
 case hn=>show 5<10;decide
 walk_at "vi"
 refine⟨θ.start,rfl,NR.av,?_⟩
 walk_at "vi"
 refine⟨.int 0,rfl,?_⟩
 show Sv K _ _ _ [some (.d (e θ.start)),some (.d (.int θ.n)),some (.obj (CloOk P w K mg base CX0 2 (spR K (PreL e θ) (PostL e θ) NP))),some (.d (.int θ.m)),some (.own [.d (e θ.start)]),some (.dic (encD e [(θ.start,.int 0)])),none,none,none,none] _
 walk_at "vi"
 refine Zfd (λm ρ=>∃ (met:List α) (rows:List (List Int)) (o1 o2 o3:Option AV),ρ=[some (.d (e θ.start)),some (.d (.int θ.n)),some (.obj (CloOk P w K mg base CX0 2 (spR K (PreL e θ) (PostL e θ) NP))),some (.d (.int θ.m)),some (oE e met),some (.dic (encD e (numK met))),some (.own (rows.map λx=>.d (tI x))),o1,o2,o3] /\
  MetI θ met rows.length/\(∀ j (h:j<met.length),j<rows.length->rows[j]?=some (rowN θ.g met met[j] θ.n))/\m=θ.U.length-rows.length) θ.U.length ⟨[θ.start],[],none,none,none,rfl,⟨by simp,by simpa using ok.mem,λj _ hj=>by simp at hj,λF h=>h,by simp⟩,λj _ hj=>by simp at hj,by simp⟩ ?_
 rintro m ρ ⟨met,rows,o1,o2,o3,rfl,I,hrows,rfl⟩
 have hml:=Zbq I.nd I.u
 have hu1:=ok.u1
 have hle:=I.le
 walk_at "vi"
 refine Zf5 (ds:=rows.map tI) (by exact (ZdU rows λx=>.d (tI x))) ?_
 rw[List.length_map]
 walk_at "vi"
 refine Zf5 (ds:=met.map e) (by exact Zej e met) ?_
 rw[List.length_map]
 walk_at "vi"
 refine ite2 (λh=>?_) λh=>?_
 ·have hlt:rows.length<met.length:=by have:=of_decide_eq_true h;omega
  walk_at "vi"
  refine ZkL ?_
  walk_at "vi"
  have hn1:=ok.n1
  have ha:=I.u _ (List.getElem_mem hlt)
  refine⟨(θ.n:Int),rfl,⟨by omega,by omega⟩,λl ρ=>∃ (o2 o3:Option AV),ρ=[some (.d (e θ.start)),some (.d (.int θ.n)),some (.obj (CloOk P w K mg base CX0 2 (spR K (PreL e θ) (PostL e θ) NP))),some (.d (.int θ.m)),some (oE e (growM θ.g met[rows.length] met l)),some (.dic (encD e (numK (growM θ.g met[rows.length] met l)))),some (.own (rows.map λx=>.d (tI x))),some (oI (rowN θ.g (growM θ.g met[rows.length] met l) met[rows.length] l)),o2,o3] /\
   (growM θ.g met[rows.length] met l).Nodup/\(∀ x∈growM θ.g met[rows.length] met l,x∈θ.U)/\∀ l',l' < l->θ.g met[rows.length] l'∈growM θ.g met[rows.length] met l,⟨o2,o3,rfl,I.nd,I.u,λl' h=>by omega⟩,?_,?_⟩
  ·rintro l ρ hl ⟨o2,o3,rfl,k1,k2,k3⟩
   have hl':l<θ.n:=by omega
   obtain⟨r,er⟩:=ZbX θ.g met[rows.length] met l
   have hgl:=Zbq k1 k2
   have hth:=ok.cl _ ha l hl'
   walk_at "vi"
   refine Zmz (i:=2) rfl ?_
   walk_at "vi"
   refine Zf5 (ds:=rows.map tI) (by exact (ZdU rows λx=>.d (tI x))) ?_
   rw[List.length_map]
   have hG:rows.length<(growM θ.g met[rows.length] met l).length:=by rw[er,List.length_append];omega
   have eG:(growM θ.g met[rows.length] met l)[rows.length]=met[rows.length]:=by
    simp only[er]
    exact List.getElem_append_left hlt
   refine ix_L (Zej e _) (ZpN hG) (Item.flat (hf _)) ?_
   rw[eG]
   generalize hGG:growM θ.g met[rows.length] met l=G at k1 k2 k3 er hgl hG eG ⊢
   generalize hth':θ.g met[rows.length] l=t at hth
   walk_at "vi"
   refine⟨[.d (e met[rows.length]),.d (.int l)],.cons (.d NR.av rfl) (.cons (.d NR.av rfl) .nil),⟨met[rows.length],l,rfl,ha,hl'⟩,λc ⟨x,l2,ee,ec⟩=>?_,λ_ z=>z.elim⟩
   simp only[List.append_nil,List.cons.injEq,AV.d.injEq,PyData.int.injEq,and_true] at ee
   have ex:=hj _ _ ee.1
   have el:l=l2:=by omega
   subst ex el
   rw[hth'] at ec
   subst ec
   refine⟨_,Got.own (hf _),?_⟩
   walk_at "vi"
   refine ZkM (λρ=>ρ=[some (.d (e θ.start)),some (.d (.int θ.n)),some (.obj (CloOk P w K mg base CX0 2 (spR K (PreL e θ) (PostL e θ) NP))),some (.d (.int θ.m)),some (oE e (addM G t)),some (.dic (encD e (numK (addM G t)))),some (.own (rows.map λx=>.d (tI x))),some (oI (rowN θ.g G met[rows.length] l)),some (.d (.int l)),some (.d (e t))]) ?_ ?_
   case refine_2 =>
    walk_at "vi"
    refine Zjd F (c:=t) (kvs:=numK G) rfl rfl ?_
    rw[ZfD]
    by_cases hm:t∈G
    ·rw[if_pos hm]
     walk_at "vi"
     show (if (!true)=true then _ else _)
     refine iteNT ?_
     walk_at "vi"
     have ea:addM G t=G:=if_pos hm
     rw[ea]
    ·rw[if_neg hm]
     walk_at "vi"
     show (if (!false)=true then _ else _)
     refine iteNF ?_
     walk_at "vi"
     refine Zoa F ?hz ?_
     case hz=>unfold numK;rw[List.length_map,List.length_zipIdx];omega
     walk_at "vi"
     refine Zf5 (ds:=G.map e) (by exact Zej e G) ?_
     rw[List.length_map]
     walk_at "vi"
     refine⟨_,t,rfl,rfl,NR.av,?_⟩
     rw[Zlb hm]
     walk_at "vi"
     refine v_ap ?hz ?_
     case hz=>rw[List.length_map];omega
     have ea:addM G t=G++[t]:=if_neg hm
     rw[ea]
     show [_,_,_,_,some (AV.own ((G.map λx=>.d (e x))++[.d (e t)])),_,_,_,_,_]=_
     rw[oE,List.map_append]
     rfl
   rintro ρ rfl
   walk_at "vi"
   refine Zmq F (c:=t) (kvs:=numK (addM G t)) (z:=.int ((addM G t).idxOf t:Int)) rfl rfl (by rw[ZfD,if_pos (ZfC G t)]) (Item.flat rfl) ?_
   walk_at "vi"
   refine v_ap ?hz ?_
   case hz=>rw[List.length_map];unfold rowN;rw[List.length_map,List.length_range];omega
   obtain⟨r2,er2⟩:=ZdX G t
   have eg:growM θ.g met[rows.length] met (l+1)=addM G t:=by rw[ZaL,hGG,hth']
   have erow:rowN θ.g (addM G t) met[rows.length] (l+1)=rowN θ.g G met[rows.length] l++[((addM G t).idxOf t:Int)]:=by
    rw[ZjO,hth',er2,ZhH k3]
   rw[ZgR]
   show ∃ o2 o3,_
   rw[eg,erow]
   refine⟨_,_,rfl,ZmQ k1,ZjM k2 hth,λl' h'=>?_⟩
   by_cases h2:l' < l
   ·rw[er2];exact List.mem_append_left _ (k3 l' h2)
   ·have:l'=l:=by omega
    subst this
    rw[hth'];exact ZfC G t
  ·rintro ρ ⟨o2,o3,rfl,k1,k2,k3⟩
   rw[Int.toNat_natCast] at k1 k2 k3 ⊢
   obtain⟨r,er⟩:=ZbX θ.g met[rows.length] met θ.n
   have hgl:=Zbq k1 k2
   have hbf:∀ F,Bfs θ.g θ.n (growM θ.g met[rows.length] met θ.n) (rows.length+1) F->Bfs θ.g θ.n [θ.start] 0 F:=λF h=>I.bf F (.step hlt h)
   generalize hGG:growM θ.g met[rows.length] met θ.n=G at k1 k2 k3 er hgl hbf ⊢
   walk_at "vi"
   refine Zbt (ds:=(rowN θ.g G met[rows.length] θ.n).map .int) (by exact Zbk _) (Kp.flat (ZaB _)) ?_
   refine v_ap ?hz ?_
   case hz=>rw[List.length_map];omega
   walk_at "vs"
   refine Zf5 (ds:=G.map e) (by exact Zej e G) ?_
   rw[List.length_map]
   walk_at "vs"
   have hum:=ok.um
   refine iteN (by omega) ?_
   walk_at "vi"
   have hmG:met.length<=G.length:=by rw[er,List.length_append];omega
   have sub:∀ x∈met,x∈G:=λx hx=>by rw[er];exact List.mem_append_left _ hx
   have at':∀ j (h:j<G.length) (h':j<met.length),G[j]=met[j]:=λj h h'=>by
    simp only[er]
    exact List.getElem_append_left h'
   refine⟨θ.U.length-(rows.length+1),by omega,G,rows++[rowN θ.g G met[rows.length] θ.n],some (oI (rowN θ.g G met[rows.length] θ.n)),o2,o3,?_,⟨k1,k2,λj h hj l hl=>?_,λF h=>?_,?_⟩,λj h hj=>?_,by simp⟩
   ·show [_,_,_,_,_,_,some (AV.own ((rows.map λx=>.d (tI x))++[.d (tI (rowN θ.g G met[rows.length] θ.n))])),_,_,_]=_
    rw[List.map_append]
    rfl
   ·rw[List.length_append] at hj
    by_cases h2:j<rows.length
    ·rw[at' j h (by omega)]
     exact sub _ (I.all j (by omega) h2 l hl)
    ·have:j=rows.length:=by simp at hj;omega
     subst this
     rw[at' rows.length h hlt]
     exact k3 l hl
   ·rw[List.length_append] at h
    exact hbf F h
   ·rw[List.length_append];simp;omega
   ·rw[List.length_append] at hj
    by_cases h2:j<rows.length
    ·rw[List.getElem?_append_left h2,at' j h (by omega),hrows j (by omega) h2]
     congr 1
     rw[er,ZhH λl hl=>I.all j (by omega) h2 l hl]
    ·have:j=rows.length:=by simp at hj;omega
     subst this
     rw[List.getElem?_append_right (Nat.le_refl _),at' rows.length h hlt]
     simp
 ·have hge:met.length<=rows.length:=by
   have:¬ ((rows.length:Int)<met.length):=λz=>h (decide_eq_true z)
   omega
  walk_at "vi"
  refine ZmC ?_
  walk_at "vi"
  refine Zbt (ds:=rows.map tI) (by exact (ZdU rows λx=>.d (tI x))) (Kp.flat (ZaW (λx=>Zc6 x) rows)) ?_
  walk_at "vi"
  have hrl:rows.length=met.length:=by omega
  have er:rows=met.map λa=>rowN θ.g met a θ.n:=by
   refine List.ext_getElem? λj=>?_
   by_cases hj:j<met.length
   ·rw[hrows j hj (by omega),List.getElem?_map,List.getElem?_eq_getElem hj];rfl
   ·rw[List.getElem?_eq_none (by omega),List.getElem?_eq_none (by rw[List.length_map];omega)]
  refine⟨by walk_at "nrs",by show 2<=1000;decide,_,.inr ⟨NR.bor,rfl⟩,met,I.bf met (.done hge),I.nd,I.u,?_⟩
  show AV.d (.tuple [(oE e met).data,.tuple (rows.map tI)])=_
  rw[Zej]
  unfold dMet
  rw[<- er]
def PreS{α:Type}(e:α->PyData)(θ:Th α)(cs:List AV):Prop:=∃ x:α,cs=[.d (e x)]/\x∈θ.U
def PostS{α:Type}(e:α->PyData)(sg:α->Int)(cs:List AV)(c:AV):Prop:=∃ x:α,cs=[.d (e x)]/\c=.d (.int (sg x))
def mMet{α:Type}[DecidableEq α](θ:Th α)(sg:α->Int)(F:List α):Mach:=⟨F.map λa=>rowN θ.g F a θ.n,F.map sg⟩
def ZhJ{α:Type}(P:Program)(w:World)(K:W.Frag)(mg:Str->Option Value)(base:Heap)(e:α->PyData)(θ:Th α×(α->Int))(cs:List AV):Prop :=
 θ.1.Ok/\cs=[.d (e θ.1.start),.d (.int θ.1.n),.obj (CloOk P w K mg base CX0 2 (spR K (PreL e θ.1) (PostL e θ.1) NP)),.obj (CloOk P w K mg base CX0 2 (spR K (PreS e θ.1) (PostS e θ.2) NP)),.d (.int θ.1.m)]
def ZgU{α:Type}[DecidableEq α](θ:Th α×(α->Int))(_:List AV)(c:AV):Prop:=∃ F,Bfs θ.1.g θ.1.n [θ.1.start] 0 F/\F.Nodup/\(∀ x∈F,x∈θ.1.U)/\c=.d (dM (mMet θ.1 θ.2 F))
theorem ZcO(T:Txt K mg){α:Type}[DecidableEq α]{e:α->PyData}(Fe:KEnc e)(hj:∀ a b,e a=e b->a=b)(hf:∀ x,noLst (e x)=true) :
  Cal P w K mg base CX0 4 "machine_met" ["start", "letters", "lead", "sign", "most"] [] (spF K (ZhJ P w K mg base e) ZgU):=by
 have c_met_from:Cal P w K mg base CX0 3 "met_from" ["start", "letters", "lead", "most"] [] (spF K (ZjQ P w K mg base e) (ZhI e)):=ZgT T Fe hj hf
 refine valRF T.x_machine_met ZcN (λθ cs ⟨_,e⟩=>by rw[e];rfl) (λθ f cdv A outer s H E hr=>?_) [] (by simp)
 refine⟨_,(Zac (Zal (i:=5) ZcN.nd rfl (Or.inl rfl) (Zai (c_met_from.mono (by decide)) hr rfl pass0 (Zaa (pv 0) (Zaa (pv 1) (Zaa (pv 2) (Zaa (pv 4) Zab))))))
   (Zaf (Zap (ZbM (Zaa (Zao (Zag (K:=K) rfl hr.units) (pv 5) Zae (λ_ _=>rfl)) (Zaa (ZaD (ZaQ (K:=K) rfl) rfl T.n_tuple PyProof.Rows.boot_tuple (Zaa (Zbs (N:=["thing", "sign"]) (cap:=[none,some 3]) rfl rfl rfl (by kernel_rfl) (ZbD (K:=K) rfl (Zao (Zag (K:=K) rfl hr.units) (pv 5) Zae (λ_ _=>rfl))) (λ_ _ _ _=>(Zav (i:=0) (show (["thing", "sign"]:List Str).Nodup from by decide +kernel) rfl (Or.inl rfl))) (λ_ _ _ _=>ZaV) (λ_ _ _ _=>(Zeb (CX:=CX0) (P:=P) (w:=w) (K:=K) (mg:=mg) (base:=base) (i:=1) (k:=2) rfl rfl rfl rfl rfl (hr.mono (by decide)) pass0 (Zaa (pv 0) Zab)))) Zab)) Zab)))))),?_⟩
 rintro cs ⟨ok,rfl⟩
 obtain⟨θ,sg⟩:=θ
 show Sv K _ _ _ [some (.d (e θ.start)),some (.d (.int θ.n)),some (.obj (CloOk P w K mg base CX0 2 (spR K (PreL e θ) (PostL e θ) NP))),some (.obj (CloOk P w K mg base CX0 2 (spR K (PreS e θ) (PostS e sg) NP))),some (.d (.int θ.m)),none] _
 walk_at "vi"
 refine Zjn ?_
 walk_at "vi"
 refine⟨θ,[.d (e θ.start),.d (.int θ.n),.obj _,.d (.int θ.m)],.cons (.d NR.av rfl) (.cons (.d NR.av rfl) (.cons .o (.cons (.d NR.av rfl) .nil))),⟨ok,rfl⟩,λc ⟨F,h1,h2,h3,ec⟩=>?_,λ_ z=>z.elim⟩
 subst ec
 refine⟨_,Got.br,?_⟩
 have hu1:θ.U.length<=1000:=ok.u1
 have hFl:=Zbq h2 h3
 refine v_sB (by repeat (first|exact NoOwn.nil|refine NoOwn.no ?_|refine NoOwn.d ?_|refine NoOwn.o ?_)) ?_
 show Sv K _ _ _ [some (.d (e θ.start)),some (.d (.int θ.n)),some (.obj (CloOk P w K mg base CX0 2 (spR K (PreL e θ) (PostL e θ) NP))),some (.obj (CloOk P w K mg base CX0 2 (spR K (PreS e θ) (PostS e sg) NP))),some (.d (.int θ.m)),some (.d (dMet e θ F))] _
 walk_at "vm"
 refine ZbC ?_
 walk_at "vm"
 refine Zmr (α:=α) ?_
 walk_at "vm"
 refine⟨F,e,λi ys=>ys=(F.take i).map λx=>.d (.int (sg x)),.inl rfl,NR.av,by omega,rfl,λi ys hi iy=>?_,λys iy=>?_⟩
 ·show Gv K _ _ [none,some (.obj (CloOk P w K mg base CX0 2 (spR K (PreS e θ) (PostS e sg) NP)))] _
  walk_at "vm"
  refine⟨wk_0,Zjg ?_⟩
  refine Zmz (i:=1) rfl ?_
  walk_at "vm"
  refine⟨[.d (e F[i])],.cons (.d NR.av rfl) .nil,⟨F[i],rfl,h3 _ (List.getElem_mem hi)⟩,λc ⟨x,ee,ec⟩=>?_,λ_ z=>z.elim⟩
  simp only[List.append_nil,List.cons.injEq,AV.d.injEq,and_true] at ee
  have ex:=hj _ _ ee
  subst ex ec
  refine⟨_,Got.own rfl,_,rfl,?_⟩
  show ys++_=(F.take (i+1)).map _
  rw[show ys=(F.take i).map _ from iy,List.take_add_one,List.getElem?_eq_getElem hi,List.map_append]
  rfl
 ·have iy:ys=(F.take F.length).map λx=>.d (.int (sg x)):=iy
  rw[List.take_length] at iy
  subst iy
  have eo:(AV.own (F.map λx=>.d (.int (sg x))))=oI (F.map sg):=by rw[oI,List.map_map];rfl
  rw[eo]
  refine⟨_,Got.own (ZbB _),?_⟩
  walk_at "vm"
  refine Zbt (ds:=(F.map sg).map .int) (by exact Zbk _) (Kp.flat (ZaB _)) ?_
  walk_at "vm"
  refine⟨[.d (.tuple ((F.map λa=>rowN θ.g F a θ.n).map tI)),.d (tI (F.map sg))],.cons rfl (.cons rfl .nil),by show 2<=1000;decide,_,ZaZ rfl,F,h1,h2,h3,rfl⟩
def gR(M:Mach)(st:List Int)(r:Int)(l:Nat):Int:=st.getD (stp M.rows r l).toNat 0
def thR(M:Mach)(st:List Int):Th Int:=⟨0,(M.rows.getD 0 []).length,M.rows.length,gR M st,rgI M.rows.length⟩
def sgR(M:Mach)(r:Int):Int:=M.signs.getD r.toNat 0
structure StOk(M:Mach)(st:List Int):Prop where
 len:st.length=M.rows.length
 all:∀ y∈st,0<=y/\y<M.rows.length
theorem Zay{n:Nat}{x:Int}:x∈rgI n↔0<=x/\x<n:=by
 simp only[rgI,List.mem_map,List.mem_range]
 refine⟨λ⟨a,h,e⟩=>by omega,λh=>⟨x.toNat,by omega,by omega⟩⟩
theorem Zol{M:Mach}{st:List Int}(hP:Parts 1 64 M)(hs:StOk M st):(thR M st).Ok:=by
 have h0:=hP.n0
 have h1:=hP.n1
 have hl1:=hP.l1
 refine⟨Zay.mpr ⟨Int.le_refl _,by show (0:Int)<M.rows.length;omega⟩,λx hx l hl=>?_,?_,?_,?_⟩
 ·have hx:=Zay.mp hx
  have hl:l<(M.rows.getD 0 []).length:=hl
  have h2:=hP.stp hx.1 hx.2 (l:=l) (by omega) (by omega)
  exact Zay.mpr (hs.all _ (Zaq (by rw[hs.len];omega)))
 ·show ((rgI M.rows.length).length:Int)<=M.rows.length
  simp[rgI]
 ·show (M.rows.getD 0 []).length<=1000
  omega
 ·show (rgI M.rows.length).length<=1000
  simp[rgI];omega
def ZlF(cs:List AV):Prop:=∃ (M:Mach) (st:List Int),cs=[.d (dM M),.d (dI st)]/\Parts 1 64 M/\StOk M st
def ZjR(cs:List AV)(c:AV):Prop:=∃ (M:Mach) (st F:List Int),cs=[.d (dM M),.d (dI st)]/\Bfs (gR M st) (M.rows.getD 0 []).length [0] 0 F/\F.Nodup/\(∀ x∈F,x∈rgI M.rows.length)/\c=.d (dM (mMet (thR M st) (sgR M) F))
theorem ZfE(T:Txt K mg)(B:base.BuiltinsAt mg mainGlobals)(hTs:∀ p∈ts0,p∈Tabs.ts):Cal P w K mg base CX0 5 "reached_by" ["machine", "stands"] [] (spR K ZlF ZjR NP):=by
 obtain⟨c0,T0⟩:=T.x_reached_by
 have c_machine_met:Cal P w K mg base CX0 4 "machine_met" ["start", "letters", "lead", "sign", "most"] [] (spF K (ZhJ P w K mg base PyData.int) ZgU):=ZcO T KEnc.int (λa b e=>PyData.int.inj e) λ_=>rfl
 refine valRM (k:=4) T0 ZaP (λcs ⟨M,st,e,_⟩=>by rw[e];rfl) (λf A outer s H E hr=>?_)
 refine⟨_,(Zac (Zal (i:=2) ZaP.nd rfl (Or.inr rfl) (Zao (Zag (K:=K) rfl hr.units) (pv 0) Zae (λ_ _=>rfl)))
   (Zac (Zal (i:=3) ZaP.nd rfl (Or.inr rfl) (Zao (Zag (K:=K) rfl hr.units) (pv 0) Zae (λ_ _=>rfl)))
   (Zac (Zdh (name := "lead") (qual := "reached_by.<locals>.lead") (params:=defArgs Zas) (body:=defBody Zas) (scope:=defScope Zas) (P:=ZaE) (i:=4) ZaP.nd rfl (Or.inl rfl) rfl rfl rfl rfl rfl T0.tab Zdq B)
   (Zac (Zdh (name := "sign") (qual := "reached_by.<locals>.sign") (params:=defArgs Zat) (body:=defBody Zat) (scope:=defScope Zat) (P:=ZaE) (i:=5) ZaP.nd rfl (Or.inl rfl) rfl rfl rfl rfl rfl T0.tab Zds B)
   (Zaf (Zap (ZcT (c_machine_met.mono (by decide)) hr rfl (pass0L (E:=E0)) (Zaa Zae (Zaa (Zaz (ZaC (K:=K) rfl) rfl T.n_len PySem.boot_len (Zaa (Zao (Zag (K:=K) rfl hr.units) (pv 2) Zae (λ_ _=>rfl)) Zab)) (Zaa (pv 4) (Zaa (pv 5) (Zaa (Zaz (ZaC (K:=K) rfl) rfl T.n_len PySem.boot_len (Zaa (pv 2) Zab)) Zab)))))))))))),?_⟩
 rintro cs ⟨M,st,rfl,hP,hst⟩
 show Sv K _ _ _ [some (.d (dM M)),some (.d (dI st)),none,none,none,none] _
 have hn0:=hP.n0
 walk_at "vm"
 refine Zdi (hTs (ZaE,Zb5) (by simp[ts0])) (by decide +kernel) (by show 4<6;decide) ?_
 show Sv K _ _ _ [some (.d (dM M)),some (.d (dI st)),some (.d (tR M.rows)),some (.d (tI M.signs)),some (.obj _),none] _
 walk_at "vm"
 refine Zdi (hTs (ZaE,Zb5) (by simp[ts0])) (by decide +kernel) (by show 5<6;decide) ?_
 show Sv K _ _ _ [some (.d (dM M)),some (.d (dI st)),some (.d (tR M.rows)),some (.d (tI M.signs)),some (.obj _),some (.obj _)] _
 walk_at "vm"
 refine ZcU ?_
 walk_at "vm"
 refine ix_T rfl (ZfB (by decide) (by omega)) Item.d ?_
 walk_at "vm"
 refine ZkJ rfl ?_
 rw[List.length_map]
 walk_at "vm"
 refine ZkJ rfl ?_
 rw[List.length_map]
 walk_at "vm"
 refine⟨(thR M st,sgR M),[.d (.int 0),.d (.int (M.rows.getD 0 []).length),.obj (CloOk P w K mg base CX0 2 (spR K (PreL PyData.int (thR M st)) (PostL PyData.int (thR M st)) NP)),.obj (CloOk P w K mg base CX0 2 (spR K (PreS PyData.int (thR M st)) (PostS PyData.int (sgR M)) NP)),.d (.int M.rows.length)],
  .cons (.d NR.av rfl) (.cons (.d NR.av rfl) (.cons (.o (λv G1 G2 m h=>h.same m) λH0 σ ts as H1 H2 v s L hm=>?lead) (.cons (.o (λv G1 G2 m h=>h.same m) λH0 σ ts as H1 H2 v s L hm=>?sign) (.cons (.d NR.av rfl) .nil)))),⟨Zol hP hst,rfl⟩,λc ⟨F,h1,h2,h3,ec⟩=>?_⟩
 case lead =>
  refine Zdj (k:=1) Zdp ZcV ZaP.nofree (λ_=>rfl) (λ_ _ _ _ _ s us hl=>by obtain⟨a,b,rfl⟩:=len2 hl;exact .of_eq rfl) (λcs ⟨x,l,e,_⟩=>by rw[e];rfl) (λcs ⟨x,l,e,_⟩=>by rw[e];rfl) hm L s λcl f c A outer s H E hr=>?_
  refine⟨_,(Zaf (Zap (Zao (Zag (K:=K) rfl hr.units) (pv 2) (Zao (Zag (K:=K) rfl hr.units) (Zao (Zag (K:=K) rfl hr.units) (pv 3) (pv 0) (λ_ _=>rfl)) (pv 1) (λ_ _=>rfl)) (λ_ _=>rfl)))),?_⟩
  rintro cs ⟨x,l,rfl,hx,hl⟩
  show Sv K _ _ _ [some (.d (.int x)),some (.d (.int l)),some (.d (dI st)),some (.d (tR M.rows))] _
  have hx:=Zay.mp hx
  have hl:l<(M.rows.getD 0 []).length:=hl
  have h2:=hP.stp hx.1 hx.2 (l:=l) (by omega) (by omega)
  have hr:x.toNat<M.rows.length:=by omega
  have hrow:=(hP.row _ (Zaq (d:=[]) hr)).1
  walk_at "vs"
  refine ix_T rfl (ZfB hx.1 hx.2) Item.d ?_
  walk_at "vs"
  refine ix_T rfl (Zb7 (by omega) (by rw[hrow];omega)) Item.d ?_
  walk_at "vs"
  refine ix_L rfl (Zb7 h2.1 (by rw[hst.len];exact h2.2)) Item.d ?_
  exact⟨_,ZaZ rfl,x,l,rfl,rfl⟩
 case sign =>
  refine Zdj (k:=1) Zdr ZcW ZaP.nofree (λ_=>rfl) (λ_ _ _ _ _ s us hl=>by obtain⟨a,rfl⟩:=len1 hl;exact .of_eq rfl) (λcs ⟨x,e,_⟩=>by rw[e];rfl) (λcs ⟨x,e,_⟩=>by rw[e];rfl) hm L s λcl f c A outer s H E hr=>?_
  refine⟨_,(Zaf (Zap (Zao (Zag (K:=K) rfl hr.units) (pv 1) (pv 0) (λ_ _=>rfl)))),?_⟩
  rintro cs ⟨x,rfl,hx⟩
  show Sv K _ _ _ [some (.d (.int x)),some (.d (tI M.signs))] _
  have hx:=Zay.mp hx
  walk_at "vs"
  refine ix_T rfl (Zb7 hx.1 (by rw[hP.s];exact hx.2)) Item.d ?_
  exact⟨_,ZaZ rfl,x,rfl,rfl⟩
 subst ec
 refine⟨rfl,_,Got.own (Zct _),_,ZaZ rfl,M,st,F,rfl,h1,h2,h3,rfl⟩
abbrev stA(M:Mach):List Int:=rgI M.rows.length
theorem Zom(M:Mach):StOk M (stA M):=⟨by simp[rgI],λy hy=>Zay.mp hy⟩
theorem ZhK{M N:Mach}(h:dM M=dM N):M=N:=by
 have:=(Mach.enc.eqv M N).mp (by rw[h];exact (Mach.enc.eqv N N).mpr rfl)
 exact this
theorem ZjS{a b:List Int}(h:dI a=dI b):a=b:=by
 have h':a.map PyData.int=b.map PyData.int:=by injection h
 exact (List.map_inj_right λ_ _ e=>PyData.int.inj e).mp h'
theorem ZjT(n:Nat):rgI (n+1)=rgI n++[(n:Int)]:=by simp[rgI,List.range_succ]
theorem Ze0(n:Nat):(rgI n).length=n:=by simp[rgI]
theorem ZmR{n k:Nat}(h:k<n):(rgI n).getD k 0=(k:Int):=by
 rw[List.getD_eq_getElem?_getD]
 simp[rgI,h]
theorem Zon{n k:Nat}(h:k<n):(rgI n).idxOf (k:Int)=k:=by
 induction n with
 | zero=>omega
 | succ n ih =>
  rw[ZjT,List.idxOf_append]
  by_cases hk:k<n
  ·rw[if_pos (Zay.mpr ⟨by omega,by omega⟩),ih hk]
  ·have:k=n:=by omega
   subst this
   rw[if_neg (λz=>by have:=Zay.mp z;omega),Ze0]
   simp
section
variable {α:Type}[DecidableEq α]
def gN(g:α->Nat->α)(F:List α)(i:Int)(l:Nat):Int:=match F[i.toNat]? with
 | some a=>(F.idxOf (g a l):Int)
 | none=>0
theorem ZmS{F m r:List α}{x:α}(nd:F.Nodup)(e:F=addM m x++r):addM (rgI m.length) (F.idxOf x:Int)=rgI (addM m x).length:=by
 by_cases h:x∈m
 ·have ea:addM m x=m:=if_pos h
  rw[ea] at e ⊢
  rw[e,ZjN h]
  exact if_pos (Zay.mpr ⟨by omega,by have:=List.idxOf_lt_length_of_mem h;omega⟩)
 ·have ea:addM m x=m++[x]:=if_neg h
  rw[ea] at e ⊢
  have ei:F.idxOf x=m.length:=by
   rw[e,List.append_assoc,List.idxOf_append,if_neg h]
   simp
  rw[ei]
  unfold addM
  rw[if_neg (λz=>by have:=Zay.mp z;omega),List.length_append]
  exact (ZjT m.length).symm
theorem ZhL{g:α->Nat->α}{F met:List α}{a:α}{i:Int}(nd:F.Nodup)(hi:F[i.toNat]?=some a):∀ (n:Nat) (r:List α),F=growM g a met n++r->growM (gN g F) i (rgI met.length) n=rgI (growM g a met n).length
 | 0,r,_=>rfl
 | n+1,r,e=>by
  rw[ZaL] at e ⊢
  obtain⟨r2,e2⟩:=ZdX (growM g a met n) (g a n)
  have ih:=ZhL (g:=g) (met:=met) nd hi n (r2++r) (by rw[e,e2,List.append_assoc])
  rw[ZaL,ih]
  have eg:gN g F i n=(F.idxOf (g a n):Int):=by unfold gN;rw[hi]
  rw[eg]
  exact ZmS nd e
theorem ZjU{g:α->Nat->α}{n:Nat}{met F:List α}{i:Nat}(h:Bfs g n met i F)(nd:F.Nodup):Bfs (gN g F) n (rgI met.length) i (rgI F.length):=by
 induction h with
 | done h=>exact .done (by rw[Ze0];exact h)
 | @step met F i h hb ih =>
  have hb':=ih nd
  refine .step (by rw[Ze0];exact h) ?_
  obtain⟨r,e⟩:=hb.pre
  obtain⟨r2,e2⟩:=ZbX g met[i] met n
  have hFi:F[((i:Nat):Int).toNat]?=some met[i]:=by
   rw[Int.toNat_natCast,e,e2,List.append_assoc,List.getElem?_append_left h,List.getElem?_eq_getElem h]
  have hr:(rgI met.length)[i]'(by rw[Ze0];exact h)=(i:Int):=by simp[rgI]
  rw[hr,ZhL nd hFi n r e]
  exact hb'
end
section
variable {α:Type}[DecidableEq α]
theorem Zgq(g:α->Nat->α)(a:α)(met:List α):∀ n l,l<n->g a l∈growM g a met n
 | 0,l,h=>by omega
 | n+1,l,h=>by
  rw[ZaL]
  by_cases hl:l<n
  ·obtain⟨r,e⟩:=ZdX (growM g a met n) (g a n)
   rw[e];exact List.mem_append_left _ (Zgq g a met n l hl)
  ·have:l=n:=by omega
   subst this
   exact ZfC _ _
theorem Bfs.all{g:α->Nat->α}{n:Nat}{met F:List α}{i:Nat}(h:Bfs g n met i F):(∀ j (hj:j<met.length),j<i->∀ l,l<n->g met[j] l∈met)->∀ x∈F,∀ l,l<n->g x l∈F:=by
 induction h with
 | done h =>
  intro hc x hx l hl
  obtain⟨j,hj,rfl⟩:=List.mem_iff_getElem.mp hx
  exact hc j hj (by omega) l hl
 | @step met F i h hb ih =>
  intro hc
  refine ih λj hj hji l hl=>?_
  obtain⟨r,e⟩:=ZbX g met[i] met n
  have at':∀ j (h':j<met.length),(growM g met[i] met n)[j]'(by rw[e,List.length_append];omega)=met[j]:=λj h'=>by
   simp only[e];exact List.getElem_append_left h'
  by_cases h2:j<i
  ·rw[at' j (by omega),e]
   exact List.mem_append_left _ (hc j (by omega) h2 l hl)
  ·have:j=i:=by omega
   subst this
   rw[at' j h]
   exact Zgq g met[j] met n l hl
theorem Zek{g g':α->Nat->α}{a:α}{met:List α}:∀ n,(∀ l,l<n->g a l=g' a l)->growM g a met n=growM g' a met n
 | 0,_=>rfl
 | n+1,h=>by rw[ZaL,ZaL,Zek n λl hl=>h l (by omega),h n (by omega)]
theorem ZhM{g:α->Nat->α}{a:α}{met U:List α}(hm:∀ x∈met,x∈U):∀ n,(∀ l,l<n->g a l∈U)->∀ x∈growM g a met n,x∈U
 | 0,_=>hm
 | n+1,h=>by
  rw[ZaL]
  exact ZjM (ZhM hm n λl hl=>h l (by omega)) (h n (by omega))
theorem Bfs.congr{g g':α->Nat->α}{n:Nat}{U met F:List α}{i:Nat}(hc:∀ x∈U,∀ l,l<n->g x l∈U)(he:∀ x∈U,∀ l,l<n->g x l=g' x l)(h:Bfs g n met i F):(∀ x∈met,x∈U)->Bfs g' n met i F:=by
 induction h with
 | done h=>exact λ_=>.done h
 | @step met F i h hb ih =>
  intro hm
  have ha:=hm _ (List.getElem_mem h)
  refine .step h ?_
  rw[<- Zek n λl hl=>he _ ha l hl]
  exact ih (ZhM hm n λl hl=>hc _ ha l hl)
end
theorem Zlc{M:Mach}{a b:Int}(hP:Parts a b M){r:Int}{l:Nat}(h0:0<=r)(h1:r<M.rows.length)(hl:l<(M.rows.getD 0 []).length):gR M (stA M) r l=stp M.rows r l:=by
 have h2:=hP.stp h0 h1 (l:=l) (by omega) (by omega)
 unfold gR stA
 rw[ZmR (by omega)]
 omega
section
variable {α β:Type}[DecidableEq α][DecidableEq β]
def isFst(f:Nat->α)(i:Nat):Bool:=decide (∀ j,j<i->f j≠f i)
def cnt(n:Nat)(f:Nat->α):Nat:=((List.range n).filter (isFst f)).length
theorem ZjV(n:Nat)(f:Nat->α):cnt n f<=n:=by
 have:=List.length_filter_le (isFst f) (List.range n)
 rw[List.length_range] at this
 exact this
def Fine(n:Nat)(g:Nat->β)(f:Nat->α):Prop:=∀ i j,i<n->j<n->g i=g j->f i=f j
theorem Zld{n:Nat}{f:Nat->α}{g:Nat->β}(h:Fine n g f){i:Nat}(hi:i<n)(hf:isFst f i=true):isFst g i=true:=by
 unfold isFst at hf ⊢
 have hf:=of_decide_eq_true hf
 exact decide_eq_true λj hj e=>hf j hj (h j i (by omega) hi e)
theorem ZjW{l:List Nat}{p q:Nat->Bool}(h:∀ x∈l,p x=true->q x=true):(l.filter p).length<=(l.filter q).length:=by
 induction l with
 | nil=>simp
 | cons a l ih =>
  have ih:=ih λx hx=>h x (.tail _ hx)
  have ha:=h a (.head _)
  rw[List.filter_cons,List.filter_cons]
  cases hp:p a with
  | true=>rw[ha hp];simp;exact ih
  | false =>
   cases hq:q a with
   | true=>simp;omega
   | false=>simpa using ih
theorem ZjX{l:List Nat}{p q:Nat->Bool}(h:∀ x∈l,p x=true->q x=true)(hl:(l.filter q).length<=(l.filter p).length):∀ x∈l,q x=true->p x=true:=by
 induction l with
 | nil=>exact λx hx=>nomatch hx
 | cons a l ih =>
  have h':∀ x∈l,p x=true->q x=true:=λx hx=>h x (.tail _ hx)
  have hle:=ZjW h'
  have ha:=h a (.head _)
  rw[List.filter_cons,List.filter_cons] at hl
  intro x hx hqx
  cases hp:p a with
  | true =>
   rw[hp,ha hp] at hl
   simp at hl
   rcases List.mem_cons.mp hx with e|hx
   ·rw[e];exact hp
   ·exact ih h' hl x hx hqx
  | false =>
   cases hq:q a with
   | true=>rw[hp,hq] at hl;simp at hl;omega
   | false =>
    rw[hp,hq] at hl
    simp at hl
    rcases List.mem_cons.mp hx with e|hx
    ·rw[e,hq] at hqx;cases hqx
    ·exact ih h' hl x hx hqx
def fstI(n:Nat)(f:Nat->α)(i:Nat):Nat:=((List.range n).map f).idxOf (f i)
theorem Zcu{n:Nat}{f:Nat->α}{i:Nat}(hi:i<n):fstI n f i<n:=by
 have:=List.idxOf_lt_length_of_mem (List.mem_map.mpr ⟨i,List.mem_range.mpr hi,rfl⟩:f i∈(List.range n).map f)
 rw[List.length_map,List.length_range] at this
 exact this
theorem Zcv{n:Nat}{f:Nat->α}{i:Nat}(hi:i<n):f (fstI n f i)=f i:=by
 have hm:f i∈(List.range n).map f:=List.mem_map.mpr ⟨i,List.mem_range.mpr hi,rfl⟩
 have h:=List.idxOf_lt_length_of_mem hm
 have e:=List.getElem_idxOf h
 rw[List.getElem_map,List.getElem_range] at e
 exact e
theorem ZmT{xs:List α}{x:α}:∀ {j:Nat} (h:j<xs.length),j<xs.idxOf x->xs[j]≠x:=by
 induction xs with
 | nil=>intro j h;simp at h
 | cons a xs ih =>
  intro j h hj
  rw[List.idxOf_cons] at hj
  by_cases e:a=x
  ·rw[show (a == x)=true from beq_iff_eq.mpr e] at hj;simp at hj
  ·rw[show (a == x)=false from beq_false_of_ne e] at hj
   cases j with
   | zero=>exact e
   | succ j=>exact ih (by simpa using h) (by simpa using hj)
theorem ZhN{n:Nat}{f:Nat->α}{i j:Nat}(hi:i<n)(hj:j<fstI n f i):f j≠f i:=by
 have hl:=Zcu (f:=f) hi
 have:=ZmT (xs:=(List.range n).map f) (x:=f i) (j:=j) (by rw[List.length_map,List.length_range];omega) hj
 rw[List.getElem_map,List.getElem_range] at this
 exact this
theorem ZhO{n:Nat}{f:Nat->α}{i:Nat}(hi:i<n):isFst f (fstI n f i)=true:=by
 unfold isFst
 refine decide_eq_true λj hj=>?_
 rw[Zcv (f:=f) hi]
 exact ZhN hi hj
theorem Zle{f:Nat->α}{i j:Nat}(hi:isFst f i=true)(hj:isFst f j=true)(e:f i=f j):i=j:=by
 unfold isFst at hi hj
 have hi:=of_decide_eq_true hi
 have hj:=of_decide_eq_true hj
 rcases Nat.lt_trichotomy i j with h|h|h
 ·exact absurd e (hj i h)
 ·exact h
 ·exact absurd e.symm (hi j h)
theorem ZhP{n:Nat}{f:Nat->α}{i j:Nat}(hi:i<n)(hj:j<n):fstI n f i=fstI n f j↔f i=f j:=by
 refine⟨λe=>?_,λe=>?_⟩
 ·rw[<- Zcv (f:=f) hi,<- Zcv (f:=f) hj,e]
 ·unfold fstI;rw[e]
theorem ZjY{n:Nat}{f:Nat->α}{i:Nat}(hi:i<n):fstI n f (fstI n f i)=fstI n f i:=(ZhP (Zcu hi) hi).mpr (Zcv hi)
theorem Zoo{n:Nat}{f:Nat->α}{g:Nat->β}(h:Fine n g f)(hc:cnt n g<=cnt n f):Fine n f g:=by
 have key:=ZjX (l:=List.range n) (p:=isFst f) (q:=isFst g) (λx hx hf=>Zld h (List.mem_range.mp hx) hf) hc
 intro i j hi hj e
 have h1:=key _ (List.mem_range.mpr (Zcu hi)) (ZhO (f:=g) hi)
 have h2:=key _ (List.mem_range.mpr (Zcu hj)) (ZhO (f:=g) hj)
 have e1:=h _ _ (Zcu hi) hi (Zcv hi)
 have e2:=h _ _ (Zcu hj) hj (Zcv hj)
 have e3:fstI n g i=fstI n g j:=Zle h1 h2 (by rw[e1,e2,e])
 rw[<- Zcv (f:=g) hi,<- Zcv (f:=g) hj,e3]
def dd(σ:List α)(k:α):List α:=if k∈σ then σ else σ++[k]
theorem Zop{σ:List α}{k x:α}:x∈dd σ k↔x∈σ\/x=k:=by
 unfold dd;split
 ·rename_i h
  exact⟨.inl,λz=>z.elim id λe=>e▸h⟩
 ·rw[List.mem_append,List.mem_singleton]
theorem ZlG(f:Nat->α):∀ n,(∀ x,x∈((List.range n).map f).foldl dd []↔∃ i,i<n/\f i=x)/\(((List.range n).map f).foldl dd []).length=cnt n f
 | 0=>⟨λx=>by simp,rfl⟩
 | n+1=>by
  obtain⟨h1,h2⟩:=ZlG f n
  rw[List.range_succ,List.map_append,List.foldl_append]
  refine⟨λx=>?_,?_⟩
  ·show x∈dd _ (f n)↔_
   rw[Zop,h1]
   refine⟨λz=>?_,λ⟨i,hi,e⟩=>?_⟩
   ·rcases z with⟨i,hi,e⟩|e
    ·exact⟨i,by omega,e⟩
    ·exact⟨n,by omega,e.symm⟩
   ·by_cases hn:i<n
    ·exact .inl ⟨i,hn,e⟩
    ·have:i=n:=by omega
     subst this
     exact .inr e.symm
  ·show (dd _ (f n)).length=_
   unfold cnt
   rw[List.range_succ,List.filter_append,List.length_append]
   by_cases hm:f n∈((List.range n).map f).foldl dd []
   ·rw[show dd (((List.range n).map f).foldl dd []) (f n)=_ from if_pos hm,h2]
    obtain⟨i,hi,e⟩:=(h1 _).mp hm
    have:isFst f n=false:=by
     unfold isFst
     exact decide_eq_false λz=>z i hi e
    simp[this,cnt]
   ·rw[show dd (((List.range n).map f).foldl dd []) (f n)=_ from if_neg hm,List.length_append,h2]
    have:isFst f n=true:=by
     unfold isFst
     exact decide_eq_true λj hj e=>hm ((h1 _).mpr ⟨j,hj,e⟩)
    simp[this,cnt]
end
section
abbrev tl(al:List Int)(i:Nat):Int:=al.getD i 0
def keyL(L:Nat)(nx:Nat->Nat->Nat)(al:List Int)(i:Nat):Int×List Int:=(tl al i,(List.range L).map λl=>tl al (nx i l))
def nxtL(n L:Nat)(nx:Nat->Nat->Nat)(al:List Int):List Int:=(List.range n).map λi=>(fstI n (keyL L nx al) i:Int)
inductive Ref(n L:Nat)(nx:Nat->Nat->Nat):List Int->Nat->List Int->Prop
 | done {al:List Int} {m:Nat}:cnt n (tl al)<=m->Ref n L nx al m al
 | step {al R:List Int} {m:Nat}:m<cnt n (tl al)->Ref n L nx (nxtL n L nx al) (cnt n (tl al)) R->Ref n L nx al m R
theorem ZhQ{n L:Nat}{nx:Nat->Nat->Nat}{al:List Int}:(nxtL n L nx al).length=n:=by simp[nxtL]
theorem Ze1{n L:Nat}{nx:Nat->Nat->Nat}{al:List Int}{i:Nat}(hi:i<n):tl (nxtL n L nx al) i=(fstI n (keyL L nx al) i:Int):=by
 unfold tl nxtL
 rw[List.getD_eq_getElem?_getD,List.getElem?_map,List.getElem?_range hi]
 rfl
theorem ZgV{n L:Nat}{nx:Nat->Nat->Nat}{al:List Int}{i j:Nat}(hi:i<n)(hj:j<n):tl (nxtL n L nx al) i=tl (nxtL n L nx al) j↔keyL L nx al i=keyL L nx al j:=by
 rw[Ze1 hi,Ze1 hj,<- ZhP (f:=keyL L nx al) hi hj]
 exact⟨λe=>by omega,λe=>by omega⟩
theorem Zoq{L:Nat}{nx:Nat->Nat->Nat}{al:List Int}{i j:Nat}(e:keyL L nx al i=keyL L nx al j):tl al i=tl al j/\∀ l,l<L->tl al (nx i l)=tl al (nx j l):=by
 unfold keyL at e
 simp only[Prod.mk.injEq] at e
 refine⟨e.1,λl hl=>?_⟩
 have:=congrArg (λxs=>xs[l]?) e.2
 simp only[List.getElem?_map,List.getElem?_range hl] at this
 exact Option.some.inj this
theorem ZpO{L:Nat}{nx:Nat->Nat->Nat}{al:List Int}{i j:Nat}(h1:tl al i=tl al j)(h2:∀ l,l<L->tl al (nx i l)=tl al (nx j l)):keyL L nx al i=keyL L nx al j:=by
 unfold keyL
 simp only[Prod.mk.injEq]
 exact⟨h1,List.map_congr_left λl hl=>h2 l (List.mem_range.mp hl)⟩
structure Lots(n L:Nat)(nx:Nat->Nat->Nat)(al R:List Int):Prop where
 len:R.length=n
 rg:∀ i,i<n->0<=tl R i/\tl R i<n
 idem:∀ i,i<n->tl R (tl R i).toNat=tl R i
 z:0<n->tl R 0=0
 sg:∀ i j,i<n->j<n->tl R i=tl R j->tl al i=tl al j
 st:∀ i j,i<n->j<n->tl R i=tl R j->∀ l,l<L->tl R (nx i l)=tl R (nx j l)
 co:∀ rel:Nat->Nat->Prop,(∀ i j,rel i j->i<n/\j<n)->(∀ i j,rel i j->tl al i=tl al j)->(∀ i j,rel i j->∀ l,l<L->rel (nx i l) (nx j l))->∀ i j,rel i j->tl R i=tl R j
theorem ZfF{n L:Nat}{nx:Nat->Nat->Nat}{al:List Int}:Fine n (tl (nxtL n L nx al)) (tl al):=λi j hi hj e=>(Zoq ((ZgV hi hj).mp e)).1
theorem ZlH{n L:Nat}{nx:Nat->Nat->Nat}{al:List Int}{rel:Nat->Nat->Prop}(hb:∀ i j,rel i j->i<n/\j<n)(hc:∀ i j,rel i j->∀ l,l<L->rel (nx i l) (nx j l))(h:∀ i j,rel i j->tl al i=tl al j):∀ i j,rel i j->tl (nxtL n L nx al) i=tl (nxtL n L nx al) j:=λi j r =>
 (ZgV (hb i j r).1 (hb i j r).2).mpr (ZpO (h i j r) λl hl=>h _ _ (hc i j r l hl))
theorem Ref.lots{n L:Nat}{nx:Nat->Nat->Nat}(hnx:∀ i,i<n->∀ l,l<L->nx i l<n){al R:List Int}{m:Nat}(h:Ref n L nx al m R) :
  (∃ A,al=nxtL n L nx A/\m=cnt n (tl A))->Lots n L nx al R:=by
 induction h with
 | @done al m h =>
  rintro⟨A,rfl,rfl⟩
  have same:=Zoo (ZfF (nx:=nx) (L:=L) (al:=A) (n:=n)) h
  refine⟨ZhQ,λi hi=>?_,λi hi=>?_,λh0=>?_,λi j _ _ e=>e,λi j hi hj e l hl=>?_,λrel hb h1 hc=>h1⟩
  ·rw[Ze1 hi]
   have:=Zcu (f:=keyL L nx A) hi
   omega
  ·rw[Ze1 hi,Int.toNat_natCast,Ze1 (Zcu hi),ZjY hi]
  ·rw[Ze1 h0]
   have:¬ 0<fstI n (keyL L nx A) 0:=λz=>ZhN (f:=keyL L nx A) h0 z rfl
   omega
  ·have:=(Zoq ((ZgV hi hj).mp e)).2 l hl
   exact same _ _ (hnx i hi l hl) (hnx j hj l hl) this
 | @step al R m h _ ih =>
  intro _
  obtain⟨a1,a2,a3,a4,a5,a6,a7⟩:=ih ⟨al,rfl,rfl⟩
  exact⟨a1,a2,a3,a4,λi j hi hj e=>ZfF i j hi hj (a5 i j hi hj e),a6,λrel hb h1 hc=>a7 rel hb (ZlH hb hc h1) hc⟩
theorem ZmU{n:Nat}{f:Nat->Int}(h:0<n):0<cnt n f:=by
 unfold cnt
 refine List.length_pos_of_mem (a:=0) (List.mem_filter.mpr ⟨List.mem_range.mpr h,?_⟩)
 unfold isFst
 exact decide_eq_true λj hj=>by omega
theorem Ref.lots0{n L:Nat}{nx:Nat->Nat->Nat}(h0:0<n)(hnx:∀ i,i<n->∀ l,l<L->nx i l<n){al R:List Int}(h:Ref n L nx al 0 R):Lots n L nx al R:=by
 cases h with
 | done h=>have:=ZmU (f:=tl al) h0;omega
 | step h h2 =>
  obtain⟨a1,a2,a3,a4,a5,a6,a7⟩:=h2.lots hnx ⟨al,rfl,rfl⟩
  exact⟨a1,a2,a3,a4,λi j hi hj e=>ZfF i j hi hj (a5 i j hi hj e),a6,λrel hb h1 hc=>a7 rel hb (ZlH hb hc h1) hc⟩
theorem Lots.all{n L:Nat}{nx:Nat->Nat->Nat}{al R:List Int}(h:Lots n L nx al R)(hi:∀ i j,i<n->j<n->tl R i=tl R j->i=j):∀ i,i<n->tl R i=i:=λi hn=>by
 have h1:=h.rg i hn
 have:=hi _ _ (by omega) hn (h.idem i hn)
 omega
end
abbrev ltr(M:Mach):Nat:=(M.rows.getD 0 []).length
theorem ZgW{F:List Int}{x:Int}(h:x∈F):((F.idxOf x:Nat):Int)<F.length:=by have:=List.idxOf_lt_length_of_mem h;omega
structure Rb(M:Mach)(st F:List Int):Prop where
 p:Parts 1 64 M
 sk:StOk M st
 bf:Bfs (gR M st) (ltr M) [0] 0 F
 nd:F.Nodup
 u:∀ x∈F,x∈rgI M.rows.length
abbrev outM(M:Mach)(st F:List Int):Mach:=mMet (thR M st) (sgR M) F
section
variable {M:Mach}{st F:List Int}
theorem Rb.all(h:Rb M st F):∀ x∈F,∀ l,l<ltr M->gR M st x l∈F:=h.bf.all λj hj z=>by omega
theorem Rb.z(h:Rb M st F):∃ r,F=0::r:=by obtain⟨r,e⟩:=h.bf.pre;exact⟨r,e⟩
theorem Rb.rows(h:Rb M st F):(outM M st F).rows=F.map λa=>rowN (gR M st) F a (ltr M):=rfl
theorem Rb.len(h:Rb M st F):(outM M st F).rows.length=F.length:=List.length_map ..
theorem Rb.slen(h:Rb M st F):(outM M st F).signs.length=F.length:=List.length_map ..
theorem Rb.lt(h:Rb M st F):ltr (outM M st F)=ltr M:=by
 obtain⟨r,e⟩:=h.z
 show (((F.map λa=>rowN (gR M st) F a (ltr M)):List (List Int)).getD 0 []).length=_
 rw[e]
 simp[rowN]
theorem Rb.le(h:Rb M st F):F.length<=M.rows.length:=by
 have:=Zbq h.nd h.u
 simpa using this
theorem Rb.parts(h:Rb M st F):Parts 1 64 (outM M st F):=by
 have hl:=h.lt
 have hle:=h.le
 have h1:=h.p.n1
 obtain⟨r,e⟩:=h.z
 have hF:0<F.length:=by rw[e];simp
 refine⟨by rw[h.len];exact hF,by rw[h.len];omega,by rw[h.len,h.slen],λx hx=>?_,?_,?_,λx hx=>?_⟩
 ·rw[h.rows] at hx
  obtain⟨a,ha,rfl⟩:=List.mem_map.mp hx
  refine⟨by rw[show ((outM M st F).rows.getD 0 []).length=ltr M from hl];simp[rowN],λy hy=>?_⟩
  obtain⟨l,hl,rfl⟩:=List.mem_map.mp hy
  rw[h.len]
  exact⟨by omega,ZgW (h.all a ha l (List.mem_range.mp hl))⟩
 ·rw[show ((outM M st F).rows.getD 0 []).length=ltr M from hl];exact h.p.l0
 ·rw[show ((outM M st F).rows.getD 0 []).length=ltr M from hl];exact h.p.l1
 ·obtain⟨a,ha,rfl⟩:=List.mem_map.mp hx
  have:=Zay.mp (h.u a ha)
  exact h.p.sg _ (Zaq (by rw[h.p.s];omega))
theorem Rb.nx(h:Rb M st F){i l:Nat}(hi:i<F.length)(hl:l<ltr M):stp (outM M st F).rows i l=(F.idxOf (gR M st F[i] l):Int):=by
 unfold stp
 rw[Int.toNat_natCast,Int.toNat_natCast,h.rows]
 have e1:(F.map λa=>rowN (gR M st) F a (ltr M)).getD i []=rowN (gR M st) F F[i] (ltr M):=by
  rw[List.getD_eq_getElem?_getD,List.getElem?_map,List.getElem?_eq_getElem hi];rfl
 rw[e1,List.getD_eq_getElem?_getD]
 unfold rowN
 rw[List.getElem?_map,List.getElem?_range hl]
 rfl
theorem Rb.sg(h:Rb M st F){i:Nat}(hi:i<F.length):(outM M st F).signs.getD i 0=sgR M F[i]:=by
 show (F.map (sgR M)).getD i 0=_
 rw[List.getD_eq_getElem?_getD,List.getElem?_map,List.getElem?_eq_getElem hi];rfl
theorem Rb.again{F':List Int}(h:Rb M st F)(hB':Bfs (gR (outM M st F) (stA (outM M st F))) (ltr (outM M st F)) [0] 0 F'):outM (outM M st F) (stA (outM M st F)) F'=outM M st F:=by
 have hD:=h.parts
 have hn:=h.lt
 have hlen:=h.len
 have hsl:=h.slen
 have hnx:=λi l (hi:i<F.length) hl=>h.nx (i:=i) (l:=l) hi hl
 have hrow:∀ i (hi:i<F.length),(outM M st F).rows[i]?=some (rowN (gR M st) F F[i] (ltr M)):=λi hi=>by
  rw[h.rows,List.getElem?_map,List.getElem?_eq_getElem hi];rfl
 generalize outM M st F=D at hB' hD hn hlen hsl hnx hrow
 rw[hn] at hB'
 have key:∀ (i l:Nat),(hi:i<F.length)->l<ltr M->gR D (stA D) i l=(F.idxOf (gR M st F[i] l):Int):=λi l hi hl=>by
  rw[Zlc hD (by omega) (by omega) (by rw[show (D.rows.getD 0 []).length=ltr M from hn];exact hl)]
  exact hnx i l hi hl
 have hFB:=ZjU h.bf h.nd
 have hEq:F'=rgI F.length:=by
  refine hB'.det (Bfs.congr (U:=rgI F.length) (λx hx l hl=>?_) (λx hx l hl=>?_) hFB λx hx=>?_)
  ·have hx:=Zay.mp hx
   have hi:x.toNat<F.length:=by omega
   have eg:gN (gR M st) F x l=(F.idxOf (gR M st F[x.toNat] l):Int):=by
    unfold gN;rw[List.getElem?_eq_getElem hi]
   rw[eg]
   exact Zay.mpr ⟨by omega,ZgW (h.all _ (List.getElem_mem hi) l hl)⟩
  ·have hx:=Zay.mp hx
   have hi:x.toNat<F.length:=by omega
   have eg:gN (gR M st) F x l=(F.idxOf (gR M st F[x.toNat] l):Int):=by
    unfold gN;rw[List.getElem?_eq_getElem hi]
   rw[eg,<- key x.toNat l hi hl]
   congr 1
   omega
  ·obtain⟨r,e⟩:=h.z
   have hx:x=0:=by simpa [rgI] using hx
   subst hx
   exact Zay.mpr ⟨by omega,by rw[e];simp⟩
 subst hEq
 have er:(rgI F.length).map (λa=>rowN (gR D (stA D)) (rgI F.length) a (ltr M))=D.rows:=by
  refine List.ext_getElem? λi=>?_
  by_cases hi:i<F.length
  ·rw[hrow i hi,List.getElem?_map]
   have hri:(rgI F.length)[i]?=some (i:Int):=by simp[rgI,hi]
   rw[hri]
   show some _=some _
   congr 1
   unfold rowN
   refine List.map_congr_left λl hl=>?_
   have hl:=List.mem_range.mp hl
   rw[key i l hi hl,Zon (List.idxOf_lt_length_of_mem (h.all _ (List.getElem_mem hi) l hl))]
  ·rw[List.getElem?_eq_none (by rw[List.length_map,Ze0];omega),List.getElem?_eq_none (by omega)]
 have es:(rgI F.length).map (sgR D)=D.signs:=by
  refine List.ext_getElem (by rw[hsl];simp[rgI]) λi h1 h2=>?_
  rw[List.getElem_map]
  have hri:(rgI F.length)[i]'(by simpa using h1)=(i:Int):=by simp[rgI]
  rw[hri]
  unfold sgR
  rw[Int.toNat_natCast,List.getD_eq_getElem?_getD,List.getElem?_eq_getElem h2]
  rfl
 show Mach.mk ((rgI F.length).map (λa=>rowN (gR D (stA D)) (rgI F.length) a (ltr D))) ((rgI F.length).map (sgR D))=D
 rw[hn,er,es]
end
def nxM(M:Mach)(i l:Nat):Nat:=(stp M.rows i l).toNat
theorem ZhR{M:Mach}(h:Parts 1 64 M):∀ i,i<M.rows.length->∀ l,l<ltr M->nxM M i l<M.rows.length:=λi hi l hl=>by
 have:=h.stp (r:=i) (l:=l) (by omega) (by omega) (by omega) (by show (l:Int)<(ltr M:Nat);omega)
 unfold nxM
 omega
structure LotsM(M:Mach)(R:List Int):Prop where
 ex:∃ al,(∀ i j,i<M.rows.length->j<M.rows.length->(tl al i=tl al j↔tl M.signs i=tl M.signs j))/\Lots M.rows.length (ltr M) (nxM M) al R
section
variable {M:Mach}{R F:List Int}
theorem LotsM.sok(h:LotsM M R):StOk M R:=by
 obtain⟨al,_,l⟩:=h.ex
 refine⟨l.len,λy hy=>?_⟩
 obtain⟨i,hi,rfl⟩:=List.mem_iff_getElem.mp hy
 have:=l.rg i (by rw[<- l.len];exact hi)
 unfold tl at this
 rw[List.getD_eq_getElem?_getD,List.getElem?_eq_getElem hi] at this
 exact this
theorem ZmV{x:Int}{l:Nat}(hx:0<=x):gR M R x l=tl R (nxM M x.toNat l):=by
 unfold gR tl nxM
 rw[Int.toNat_of_nonneg hx]
theorem ZjZ{α:Type}[DecidableEq α]{g:α->Nat->α}{a:α}{P:α->Prop}{met:List α}(hm:∀ x∈met,P x):∀ n,(∀ l,l<n->P (g a l))->∀ x∈growM g a met n,P x
 | 0,_=>hm
 | n+1,h=>by
  rw[ZaL]
  have ih:=ZjZ hm n λl hl=>h l (by omega)
  unfold addM
  split
  ·exact ih
  ·intro y hy
   rcases List.mem_append.mp hy with hy|hy
   ·exact ih y hy
   ·rw[List.mem_singleton.mp hy];exact h n (by omega)
theorem Bfs.pred{α:Type}[DecidableEq α]{g:α->Nat->α}{n:Nat}{P:α->Prop}{met F:List α}{i:Nat}(h:Bfs g n met i F):(∀ x∈met,P x)->(∀ x,P x->∀ l,l<n->P (g x l))->∀ x∈F,P x:=by
 induction h with
 | done _=>exact λhm _=>hm
 | @step met F i h _ ih=>exact λhm hc=>ih (ZjZ hm n λl hl=>hc _ (hm _ (List.getElem_mem h)) l hl) hc
theorem LotsM.rep(h:LotsM M R)(b:Rb M R F):∀ x:Int,x∈F->tl R x.toNat=x:=by
 obtain⟨al,_,lo⟩:=h.ex
 have n0:=b.p.n0
 refine λx hx=>(b.bf.pred (P:=λx:Int=>(0<=x/\x<M.rows.length)/\tl R x.toNat=x) (λx hx=>?_) (λx hx l hl=>?_) x hx).2
 ·rw[List.mem_singleton.mp hx]
  exact⟨⟨by omega,by omega⟩,lo.z n0⟩
 ·have hn:=ZhR b.p x.toNat (by omega) l hl
  rw[ZmV hx.1.1]
  exact⟨lo.rg _ hn,lo.idem _ hn⟩
def Bi(M:Mach)(R F:List Int)(p:Int×Int):Prop:=(0<=p.1/\p.1<M.rows.length)/\(0<=p.2/\p.2<F.length)/\tl R p.1.toNat=F.getD p.2.toNat 0
theorem Zj0{i:Nat}(hi:i<F.length):F.getD i 0=F[i]:=by rw[List.getD_eq_getElem?_getD,List.getElem?_eq_getElem hi];rfl
theorem LotsM.bi0(h:LotsM M R)(b:Rb M R F):Bi M R F (0,0):=by
 obtain⟨al,_,lo⟩:=h.ex
 obtain⟨r,e⟩:=b.z
 have n0:=b.p.n0
 refine⟨⟨by simp,by simp;omega⟩,⟨by simp,by rw[e];simp⟩,?_⟩
 rw[e]
 exact lo.z n0
theorem LotsM.bis(h:LotsM M R)(b:Rb M R F){p:Int×Int}(hp:Bi M R F p):M.signs.getD p.1.toNat 0=(outM M R F).signs.getD p.2.toNat 0:=by
 obtain⟨al,ha,lo⟩:=h.ex
 obtain⟨h1,h2,h3⟩:=hp
 have hi:p.2.toNat<F.length:=by omega
 rw[b.sg hi]
 rw[Zj0 hi] at h3
 have hm:=List.getElem_mem hi
 have hr:=h.rep b _ hm
 have hu:=Zay.mp (b.u _ hm)
 have hx:p.1.toNat<M.rows.length:=by omega
 have hy:(F[p.2.toNat]).toNat<M.rows.length:=by omega
 have:=lo.sg _ _ hx hy (by rw[h3,hr])
 exact (ha _ _ hx hy).mp this
theorem LotsM.bin(h:LotsM M R)(b:Rb M R F){p:Int×Int}(hp:Bi M R F p){l:Nat}(hl:l<ltr M):Bi M R F (stp M.rows p.1 l,stp (outM M R F).rows p.2 l):=by
 obtain⟨al,ha,lo⟩:=h.ex
 obtain⟨h1,h2,h3⟩:=hp
 have hi:p.2.toNat<F.length:=by omega
 have hm:=List.getElem_mem hi
 have hr:=h.rep b _ hm
 have hu:=Zay.mp (b.u _ hm)
 rw[Zj0 hi] at h3
 have hx:p.1.toNat<M.rows.length:=by omega
 have hy:(F[p.2.toNat]).toNat<M.rows.length:=by omega
 have e2:=b.nx hi hl
 rw[Int.toNat_of_nonneg h2.1] at e2
 have ha:=b.all _ hm l hl
 have s1:=b.p.stp h1.1 h1.2 (l:=l) (by omega) (by show (l:Int)<(ltr M:Nat);omega)
 have hj:=List.idxOf_lt_length_of_mem ha
 refine⟨s1,⟨by rw[e2];omega,by rw[e2];omega⟩,?_⟩
 show tl R (stp M.rows p.1 l).toNat=F.getD (stp (outM M R F).rows p.2 l).toNat 0
 rw[e2,Int.toNat_natCast,Zj0 hj,List.getElem_idxOf,ZmV hu.1]
 have:=lo.st _ _ hx hy (by rw[h3,hr]) l hl
 rw[<- this]
 unfold nxM
 rw[Int.toNat_of_nonneg h1.1]
theorem LotsM.apart{R':List Int}(h:LotsM M R)(b:Rb M R F)(h':LotsM (outM M R F) R'):∀ i j,i<F.length->j<F.length->tl R' i=tl R' j->i=j:=by
 obtain⟨al,ha,lo⟩:=h.ex
 obtain⟨al',ha',lo'⟩:=h'.ex
 rw[b.len,b.lt] at lo'
 rw[b.len] at ha'
 let num:=λx:Nat=>F.idxOf (tl R x)
 let rel:=λx y:Nat=>(x<M.rows.length/\tl R x∈F)/\(y<M.rows.length/\tl R y∈F)/\tl R' (num x)=tl R' (num y)
 have hnum:∀ x,tl R x∈F->num x<F.length:=λx hx=>List.idxOf_lt_length_of_mem hx
 have hget:∀ x (hx:tl R x∈F),F[num x]'(hnum x hx)=tl R x:=λx hx=>List.getElem_idxOf (hnum x hx)
 have step:∀ x,x<M.rows.length->tl R x∈F->∀ l,l<ltr M->nxM M x l<M.rows.length/\tl R (nxM M x l)∈F/\num (nxM M x l)=nxM (outM M R F) (num x) l:=λx hx hm l hl=>by
  have hr:=h.rep b _ hm
  have hu:=Zay.mp (b.u _ hm)
  have e:=lo.st x (tl R x).toNat hx (by omega) hr.symm l hl
  have e2:=b.nx (hnum x hm) hl
  rw[hget x hm] at e2
  have e3:gR M R (tl R x) l=tl R (nxM M x l):=by rw[ZmV hu.1,<- e]
  rw[e3] at e2
  refine⟨ZhR b.p x hx l hl,by rw[<- e3];exact b.all _ hm l hl,?_⟩
  show F.idxOf (tl R (nxM M x l))=(stp (outM M R F).rows (num x) l).toNat
  rw[e2,Int.toNat_natCast]
 have sgn:∀ x,x<M.rows.length->tl R x∈F->tl (outM M R F).signs (num x)=tl M.signs x:=λx hx hm=>by
  have hr:=h.rep b _ hm
  have hu:=Zay.mp (b.u _ hm)
  have e:=b.sg (hnum x hm)
  rw[hget x hm] at e
  show (outM M R F).signs.getD (num x) 0=_
  rw[e]
  exact (ha _ _ (by omega) hx).mp (lo.sg _ _ (by omega) hx hr)
 have co:=lo.co rel (λi j r=>⟨r.1.1,r.2.1.1⟩) (λi j r=>?_) (λi j r l hl=>?_)
 ·intro i j hi hj e
  have mi:=List.getElem_mem hi
  have mj:=List.getElem_mem hj
  have ri:=h.rep b _ mi
  have rj:=h.rep b _ mj
  have ui:=Zay.mp (b.u _ mi)
  have uj:=Zay.mp (b.u _ mj)
  have ni:num (F[i]).toNat=i:=by show F.idxOf (tl R (F[i]).toNat)=i;rw[ri];exact b.nd.idxOf_getElem i hi
  have nj:num (F[j]).toNat=j:=by show F.idxOf (tl R (F[j]).toNat)=j;rw[rj];exact b.nd.idxOf_getElem j hj
  have:=co (F[i]).toNat (F[j]).toNat ⟨⟨by omega,by rw[ri];exact mi⟩,⟨by omega,by rw[rj];exact mj⟩,by rw[ni,nj];exact e⟩
  rw[ri,rj] at this
  have z:num (F[i]).toNat=num (F[j]).toNat:=by show F.idxOf (tl R (F[i]).toNat)=F.idxOf (tl R (F[j]).toNat);rw[ri,rj,this]
  rw[ni,nj] at z
  exact z
 ·obtain⟨⟨r1,r2⟩,⟨r3,r4⟩,r5⟩:=r
  refine (ha _ _ r1 r3).mpr ?_
  rw[<- sgn i r1 r2,<- sgn j r3 r4]
  exact (ha' _ _ (hnum i r2) (hnum j r4)).mp (lo'.sg _ _ (hnum i r2) (hnum j r4) r5)
 ·obtain⟨⟨r1,r2⟩,⟨r3,r4⟩,r5⟩:=r
  obtain⟨a1,a2,a3⟩:=step i r1 r2 l hl
  obtain⟨b1,b2,b3⟩:=step j r3 r4 l hl
  refine⟨⟨a1,a2⟩,⟨b1,b2⟩,?_⟩
  rw[a3,b3]
  exact lo'.st _ _ (hnum i r2) (hnum j r4) r5 l hl
theorem LotsM.id{R':List Int}(h:LotsM M R)(b:Rb M R F)(h':LotsM (outM M R F) R'):R'=rgI F.length:=by
 obtain⟨al',ha',lo'⟩:=h'.ex
 have hl:R'.length=F.length:=by rw[lo'.len];exact b.len
 have:=lo'.all (by rw[b.len];exact h.apart b h')
 rw[b.len] at this
 refine List.ext_getElem (by rw[hl,Ze0]) λi h1 h2=>?_
 have hi:i<F.length:=by omega
 have e:=this i hi
 unfold tl at e
 rw[List.getD_eq_getElem?_getD,List.getElem?_eq_getElem h1] at e
 simp[rgI]
 exact e
end
theorem Ref.ex{n L:Nat}{nx:Nat->Nat->Nat}:∀ (k:Nat) (al:List Int) (m:Nat),n-m<=k->∃ R,Ref n L nx al m R
 | 0,al,m,h=>⟨al,.done (by have:=ZjV n (tl al);omega)⟩
 | k+1,al,m,h=>by
  by_cases hc:cnt n (tl al)<=m
  ·exact⟨al,.done hc⟩
  ·obtain⟨R,hR⟩:=Ref.ex (n:=n) (L:=L) (nx:=nx) k (nxtL n L nx al) (cnt n (tl al)) (by have:=ZjV n (tl al);omega)
   exact⟨R,.step (by omega) hR⟩
theorem LotsM.any{M:Mach}(hP:Parts 1 64 M):∃ R,LotsM M R:=by
 obtain⟨R,h⟩:=Ref.ex (n:=M.rows.length) (L:=ltr M) (nx:=nxM M) M.rows.length M.signs 0 (by omega)
 exact⟨R,M.signs,λ_ _ _ _=>Iff.rfl,h.lots0 hP.n0 (ZhR hP)⟩
theorem Rb.co{M:Mach}{R F:List Int}(h:LotsM M R)(b:Rb M R F)(rel:Nat->Nat->Prop)(h1:∀ i j,rel i j->i<F.length/\j<F.length)(h2:∀ i j,rel i j->tl (outM M R F).signs i=tl (outM M R F).signs j)(h3:∀ i j,rel i j->∀ l,l<ltr M->rel (nxM (outM M R F) i l) (nxM (outM M R F) j l)):∀ i j,rel i j->i=j:=by
 obtain⟨R',hR'⟩:=LotsM.any b.parts
 have ap:=h.apart b hR'
 obtain⟨al,ha,lo⟩:=hR'.ex
 rw[b.len,b.lt] at lo
 rw[b.len] at ha
 intro i j r
 have hb:=h1 i j r
 exact ap i j hb.1 hb.2 (lo.co rel h1 (λi j r=>(ha _ _ (h1 i j r).1 (h1 i j r).2).mpr (h2 i j r)) h3 i j r)
section
variable {α β:Type}[DecidableEq α][DecidableEq β]
structure Sim(E:α->β->Prop)(A:List α)(B:List β):Prop where
 len:A.length=B.length
 at':∀ k (h:k<A.length) (h2:k<B.length),E A[k] B[k]
theorem Sim.add{E:α->β->Prop}(fu:∀ x y y',E x y->E x y'->y=y')(inj:∀ x x' y,E x y->E x' y->x=x'){A:List α}{B:List β}(s:Sim E A B){x:α}{y:β}(h:E x y):Sim E (addM A x) (addM B y):=by
 have iff:x∈A↔y∈B:=by
  refine⟨λhx=>?_,λhy=>?_⟩
  ·obtain⟨k,hk,rfl⟩:=List.mem_iff_getElem.mp hx
   have hk2:k<B.length:=by have:=s.len;omega
   rw[fu _ _ _ h (s.at' k hk hk2)]
   exact List.getElem_mem hk2
  ·obtain⟨k,hk,rfl⟩:=List.mem_iff_getElem.mp hy
   have hk2:k<A.length:=by have:=s.len;omega
   rw[inj _ _ _ h (s.at' k hk2 hk)]
   exact List.getElem_mem hk2
 unfold addM
 by_cases hx:x∈A
 ·rw[if_pos hx,if_pos (iff.mp hx)];exact s
 ·rw[if_neg hx,if_neg λz=>hx (iff.mpr z)]
  have hl:=s.len
  refine⟨by simp[hl],λk h1 h2=>?_⟩
  by_cases hk:k<A.length
  ·rw[List.getElem_append_left hk,List.getElem_append_left (by omega)]
   exact s.at' k hk (by omega)
  ·have:k=A.length:=by simp at h1;omega
   subst this
   simp[hl]
   exact h
theorem Sim.grow{E:α->β->Prop}(fu:∀ x y y',E x y->E x y'->y=y')(inj:∀ x x' y,E x y->E x' y->x=x'){g:α->Nat->α}{g':β->Nat->β}{A:List α}{B:List β}(s:Sim E A B){x:α}{y:β}:∀ n,(∀ l,l<n->E (g x l) (g' y l))->Sim E (growM g x A n) (growM g' y B n)
 | 0,_=>s
 | n+1,h=>by
  rw[ZaL,ZaL]
  exact Sim.add fu inj (Sim.grow fu inj s n λl hl=>h l (by omega)) (h n (by omega))
theorem Sim.bfs{E:α->β->Prop}(fu:∀ x y y',E x y->E x y'->y=y')(inj:∀ x x' y,E x y->E x' y->x=x'){g:α->Nat->α}{g':β->Nat->β}{n:Nat}(cl:∀ x y,E x y->∀ l,l<n->E (g x l) (g' y l)){A FA:List α}{i:Nat}(h:Bfs g n A i FA):∀ {B FB:List β},Sim E A B->Bfs g' n B i FB->Sim E FA FB:=by
 induction h with
 | @done A i h =>
  intro B FB s h'
  cases h' with
  | done _=>exact s
  | step h2 _=>have:=s.len;omega
 | @step A FA i h _ ih =>
  intro B FB s h'
  cases h' with
  | done h2=>have:=s.len;omega
  | step h2 h3=>exact ih (Sim.grow fu inj s n λl hl=>cl _ _ (s.at' i h h2) l hl) h3
end
theorem Rb.self{M:Mach}{st F:List Int}(h:Rb M st F):Bfs (gR (outM M st F) (stA (outM M st F))) (ltr M) [0] 0 (rgI F.length):=by
 have hD:=h.parts
 have hlen:=h.len
 have hFB:=ZjU h.bf h.nd
 refine Bfs.congr (U:=rgI F.length) (λx hx l hl=>?_) (λx hx l hl=>?_) hFB λx hx=>?_
 ·have hx:=Zay.mp hx
  have hi:x.toNat<F.length:=by omega
  have eg:gN (gR M st) F x l=(F.idxOf (gR M st F[x.toNat] l):Int):=by
   unfold gN;rw[List.getElem?_eq_getElem hi]
  rw[eg]
  exact Zay.mpr ⟨by omega,ZgW (h.all _ (List.getElem_mem hi) l hl)⟩
 ·have hx:=Zay.mp hx
  have hi:x.toNat<F.length:=by omega
  have eg:gN (gR M st) F x l=(F.idxOf (gR M st F[x.toNat] l):Int):=by
   unfold gN;rw[List.getElem?_eq_getElem hi]
  rw[eg,<- h.nx hi hl,Zlc hD hx.1 (by omega) (by rw[show ((outM M st F).rows.getD 0 []).length=ltr M from h.lt];exact hl)]
  congr 1
  omega
 ·obtain⟨r,e⟩:=h.z
  have hx:x=0:=by simpa [rgI] using hx
  subst hx
  exact Zay.mpr ⟨by omega,by rw[e];simp⟩
theorem Zj1{M N:Mach}{R F R' F':List Int}(h:LotsM M R)(b:Rb M R F)(h':LotsM N R')(b':Rb N R' F')(hl:ltr M=ltr N)(Q:Int×Int->Prop)(q0:Q (0,0))(qn:∀ p,Q p->((0<=p.1/\p.1<M.rows.length)/\0<=p.2/\p.2<N.rows.length)/\M.signs.getD p.1.toNat 0=N.signs.getD p.2.toNat 0/\∀ l,l<ltr M->Q (stp M.rows p.1 l,stp N.rows p.2 l)):outM M R F=outM N R' F':=by
 let E:Int->Int->Prop:=λi j=>∃ x y,Q (x,y)/\Bi M R F (x,i)/\Bi N R' F' (y,j)
 have E0:E 0 0:=⟨0,0,q0,h.bi0 b,h'.bi0 b'⟩
 have En:∀ i j,E i j->∀ l,l<ltr M->E (stp (outM M R F).rows i l) (stp (outM N R' F').rows j l):=λi j ⟨x,y,q,p1,p2⟩ l hl1=>⟨_,_,(qn _ q).2.2 l hl1,h.bin b p1 hl1,h'.bin b' p2 (by omega)⟩
 have Es:∀ i j,E i j->(outM M R F).signs.getD i.toNat 0=(outM N R' F').signs.getD j.toNat 0:=λi j ⟨x,y,q,p1,p2⟩=>by rw[<- h.bis b p1,<- h'.bis b' p2];exact (qn _ q).2.1
 have Ei:∀ i j,E i j->(0<=i/\i<F.length)/\0<=j/\j<F'.length:=λi j ⟨x,y,q,p1,p2⟩=>⟨p1.2.1,p2.2.1⟩
 have fu:∀ x y y',E x y->E x y'->y=y':=λx y y' e1 e2=>by
  have:=Rb.co h' b' (λi j=>∃ x,E x i/\E x j) (λi j ⟨x,e1,e2⟩=>by have:=Ei _ _ e1;have:=Ei _ _ e2;omega) (λi j ⟨x,e1,e2⟩=>by
   have s1:=Es _ _ e1;have s2:=Es _ _ e2
   rw[Int.toNat_natCast] at s1 s2
   exact s1.symm.trans s2) (λi j ⟨x,e1,e2⟩ l hl1=>by
   have t1:=En _ _ e1 l (by omega)
   have t2:=En _ _ e2 l (by omega)
   have u1:=(Ei _ _ t1).2.1
   have u2:=(Ei _ _ t2).2.1
   refine⟨_,(?_:E (stp (outM M R F).rows x l) _),?_⟩
   ·unfold nxM;rw[Int.toNat_of_nonneg u1];exact t1
   ·unfold nxM;rw[Int.toNat_of_nonneg u2];exact t2) y.toNat y'.toNat
  have i1:=(Ei _ _ e1).2
  have i2:=(Ei _ _ e2).2
  have:=this ⟨x,by rw[Int.toNat_of_nonneg i1.1];exact e1,by rw[Int.toNat_of_nonneg i2.1];exact e2⟩
  omega
 have inj:∀ x x' y,E x y->E x' y->x=x':=λx x' y e1 e2=>by
  have:=Rb.co h b (λi j=>∃ y,E i y/\E j y) (λi j ⟨x,e1,e2⟩=>by have:=Ei _ _ e1;have:=Ei _ _ e2;omega) (λi j ⟨x,e1,e2⟩=>by
   have s1:=Es _ _ e1;have s2:=Es _ _ e2
   rw[Int.toNat_natCast] at s1 s2
   exact s1.trans s2.symm) (λi j ⟨x,e1,e2⟩ l hl1=>by
   have t1:=En _ _ e1 l (by omega)
   have t2:=En _ _ e2 l (by omega)
   have u1:=(Ei _ _ t1).1.1
   have u2:=(Ei _ _ t2).1.1
   refine⟨_,(?_:E _ (stp (outM N R' F').rows x l)),?_⟩
   ·unfold nxM;rw[Int.toNat_of_nonneg u1];exact t1
   ·unfold nxM;rw[Int.toNat_of_nonneg u2];exact t2) x.toNat x'.toNat
  have i1:=(Ei _ _ e1).1
  have i2:=(Ei _ _ e2).1
  have:=this ⟨y,by rw[Int.toNat_of_nonneg i1.1];exact e1,by rw[Int.toNat_of_nonneg i2.1];exact e2⟩
  omega
 have gA:∀ x:Int,0<=x->x<F.length->∀ l,l<ltr M->gR (outM M R F) (stA (outM M R F)) x l=stp (outM M R F).rows x l:=λx h0 h1 l hl1=>Zlc b.parts h0 (by rw[b.len];exact h1) (by rw[show ((outM M R F).rows.getD 0 []).length=ltr M from b.lt];exact hl1)
 have gB:∀ x:Int,0<=x->x<F'.length->∀ l,l<ltr N->gR (outM N R' F') (stA (outM N R' F')) x l=stp (outM N R' F').rows x l:=λx h0 h1 l hl1=>Zlc b'.parts h0 (by rw[b'.len];exact h1) (by rw[show ((outM N R' F').rows.getD 0 []).length=ltr N from b'.lt];exact hl1)
 have s:=Sim.bfs fu inj (g':=gR (outM N R' F') (stA (outM N R' F'))) (cl:=λx y e l hl1=>by
  have i:=Ei _ _ e
  rw[gA x i.1.1 i.1.2 l hl1,gB y i.2.1 i.2.2 l (by omega)]
  exact En _ _ e l hl1) b.self (B:=[0]) ⟨rfl,λk h1 h2=>by
   have:k=0:=by simpa using h1
   subst this
   exact E0⟩ (by rw[hl];exact b'.self)
 have hlen:F.length=F'.length:=by have:=s.len;simpa using this
 have Ed:∀ k,k<F.length->E (k:Int) (k:Int):=λk hk=>by
  have:=s.at' k (by simpa using hk) (by simpa [<- hlen] using hk)
  simpa [rgI] using this
 have er:(outM M R F).rows=(outM N R' F').rows:=by
  refine List.ext_getElem (by rw[b.len,b'.len,hlen]) λk h1 h2=>?_
  rw[b.len] at h1
  have r1:=b.parts.row _ (List.getElem_mem (show k<(outM M R F).rows.length by rw[b.len];exact h1))
  have r2:=b'.parts.row _ (List.getElem_mem h2)
  rw[show ((outM M R F).rows.getD 0 []).length=ltr M from b.lt] at r1
  rw[show ((outM N R' F').rows.getD 0 []).length=ltr N from b'.lt] at r2
  refine List.ext_getElem (by rw[r1.1,r2.1,hl]) λl g1 g2=>?_
  rw[r1.1] at g1
  have e:=En _ _ (Ed k h1) l g1
  have v1:stp (outM M R F).rows k l=(outM M R F).rows[k][l]:=by
   unfold stp
   rw[Int.toNat_natCast,Int.toNat_natCast,List.getD_eq_getElem?_getD (l:=(outM M R F).rows),List.getElem?_eq_getElem (by rw[b.len];exact h1)]
   show ((outM M R F).rows[k]).getD l 0=_
   rw[List.getD_eq_getElem?_getD,List.getElem?_eq_getElem (by rw[r1.1];exact g1)]
   rfl
  have v2:stp (outM N R' F').rows k l=(outM N R' F').rows[k][l]:=by
   unfold stp
   rw[Int.toNat_natCast,Int.toNat_natCast,List.getD_eq_getElem?_getD (l:=(outM N R' F').rows),List.getElem?_eq_getElem h2]
   show ((outM N R' F').rows[k]).getD l 0=_
   rw[List.getD_eq_getElem?_getD,List.getElem?_eq_getElem g2]
   rfl
  rw[<- v1,<- v2]
  have i:=(Ei _ _ e).1
  have e2:=Ed (stp (outM M R F).rows k l).toNat (by omega)
  rw[Int.toNat_of_nonneg i.1] at e2
  exact (fu _ _ _ e e2).symm
 have es:(outM M R F).signs=(outM N R' F').signs:=by
  refine List.ext_getElem (by rw[b.slen,b'.slen,hlen]) λk h1 h2=>?_
  rw[b.slen] at h1
  have:=Es _ _ (Ed k h1)
  rw[Int.toNat_natCast,List.getD_eq_getElem?_getD,List.getElem?_eq_getElem (by rw[b.slen];exact h1),List.getD_eq_getElem?_getD,List.getElem?_eq_getElem h2] at this
  exact this
 generalize outM M R F=A at er es
 generalize outM N R' F'=C at er es
 obtain⟨a1,a2⟩:=A
 obtain⟨c1,c2⟩:=C
 simp only at er es
 rw[er,es]
def feI{α:Type}[DecidableEq α](xs:List α):List Int:=xs.map λx=>(xs.idxOf x:Int)
def PreF{α:Type}(e:α->PyData)(xs:List α)(ds:List PyData):Prop:=ds=[.list (xs.map e)]/\xs.length<=1000
def PreFT{α:Type}(e:α->PyData)(xs:List α)(ds:List PyData):Prop:=ds=[.tuple (xs.map e)]/\xs.length<=1000
def S_fe{α:Type}[DecidableEq α](e:α->PyData)(ds:List PyData)(c:AV):Prop:=∃ xs:List α,PreF e xs ds/\c=oI (feI xs)
def Zor{α:Type}[DecidableEq α](e:α->PyData)(ds:List PyData)(c:AV):Prop:=∃ xs:List α,PreFT e xs ds/\c=oI (feI xs)
def FstI{α:Type}[DecidableEq α](xs:List α)(i:Nat)(kvs:List (α×PyData)):Prop:=kvs.length<=i/\∀ c,getA kvs c=if c∈xs.take i then some (.int (xs.idxOf c:Nat)) else none
theorem FstI.zero{α:Type}[DecidableEq α](xs:List α):FstI xs 0 []:=⟨Nat.le_refl _,λc=>by simp[getA]⟩
theorem ZfG{α:Type}{xs:List α}{i:Nat}{c:α}(hi:i<xs.length):c∈xs.take (i+1)↔c∈xs.take i\/c=xs[i]:=by
 rw[List.take_add_one,List.getElem?_eq_getElem hi,List.mem_append]
 exact⟨λz=>z.imp id (λz=>List.mem_singleton.mp z),λz=>z.imp id (λz=>List.mem_singleton.mpr z)⟩
theorem FstI.old{α:Type}[DecidableEq α]{xs:List α}{i:Nat}{kvs:List (α×PyData)}(h:FstI xs i kvs)(hi:i<xs.length)(hm:xs[i]∈xs.take i):FstI xs (i+1) kvs:=by
 refine⟨by have:=h.1;omega,λc=>?_⟩
 rw[h.2 c]
 have:(c∈xs.take (i+1))↔c∈xs.take i:=(ZfG hi).trans ⟨λz=>z.elim id λe=>e▸hm,.inl⟩
 by_cases hc:c∈xs.take i
 ·rw[if_pos hc,if_pos (this.mpr hc)]
 ·rw[if_neg hc,if_neg λz=>hc (this.mp z)]
theorem ZmW{α:Type}[DecidableEq α]{xs:List α}{i:Nat}(hi:i<xs.length)(hm:xs[i]∉xs.take i):xs.idxOf xs[i]=i:=by
 have e:xs=xs.take i++xs[i]::xs.drop (i+1):=by rw[<- List.drop_eq_getElem_cons hi,List.take_append_drop]
 have:(xs.take i++xs[i]::xs.drop (i+1)).idxOf xs[i]=i:=by
  rw[List.idxOf_append,if_neg hm,List.idxOf_cons_self,List.length_take]
  omega
 rw[<- e] at this
 exact this
theorem FstI.new{α:Type}[DecidableEq α]{xs:List α}{i:Nat}{kvs:List (α×PyData)}(h:FstI xs i kvs)(hi:i<xs.length)(hm:xs[i]∉xs.take i):FstI xs (i+1) (putA kvs xs[i] (.int i)):=by
 refine⟨by have:=h.1;have:=ZkP kvs xs[i] (.int i);omega,λc=>?_⟩
 rw[ZkO]
 by_cases e:c=xs[i]
 ·rw[if_pos e,if_pos ((ZfG hi).mpr (.inr e)),e,ZmW hi hm]
 ·rw[if_neg e,h.2 c]
  have:(c∈xs.take (i+1))↔c∈xs.take i:=(ZfG hi).trans ⟨λz=>z.elim id λz=>absurd z e,.inl⟩
  by_cases hc:c∈xs.take i
  ·rw[if_pos hc,if_pos (this.mpr hc)]
  ·rw[if_neg hc,if_neg λz=>hc (this.mp z)]
theorem FstI.get{α:Type}[DecidableEq α]{xs:List α}{kvs:List (α×PyData)}(h:FstI xs xs.length kvs){i:Nat}(hi:i<xs.length):getA kvs xs[i]=some (.int (xs.idxOf xs[i]:Nat)):=by
 rw[h.2,List.take_length,if_pos (List.getElem_mem hi)]
theorem Zel(T:Txt K mg){α:Type}[DecidableEq α]{e:α->PyData}(F:KEnc e):Cal P w K mg base CX0 1 "first_equals" ["things"] [] (spV K (S_fe e) NX):=by
 refine val T.x_first_equals Zax (λds c ⟨xs,⟨e,_⟩,_⟩=>by rw[e];rfl) (λf cdv A outer s H E hr=>?_) [] (by simp)
 refine⟨_,(Zac (Zal (i:=1) Zax.nd rfl (Or.inr rfl) Zhj)
   (Zac (ZcI PassesOwn.never rfl (Zhm (K:=K) rfl rfl T.n_enumerate (Zaa (pv 0) Zab)) (Zfa (K:=K) (n:=2) rfl rfl (ZbK (Zav (i:=2) Zax.nd rfl (Or.inl rfl)) (ZbK (Zav (i:=3) Zax.nd rfl (Or.inl rfl)) Ze7)))
    (Zaf (Zhs (ZaA (Zci (K:=K) rfl hr.units) (pv 3) (pv 1) (by with_unfolding_all rfl))
     (Zaf (Zhg (pv 2) (Zhf (pv 1) (pv 3) (Zfb hr.units))))
     ZaY)))
   (Zaf (Zap (Zbs (N:=["thing", "firsts"]) (cap:=[none,some 1]) rfl rfl rfl (by kernel_rfl) (ZbD (K:=K) rfl (pv 0)) (λ_ _ _ _=>(Zav (i:=0) (show (["thing", "firsts"]:List Str).Nodup from by decide +kernel) rfl (Or.inl rfl))) (λ_ _ _ _=>ZaV) (λ_ _ _ _=>(Zao (Zag (K:=K) rfl hr.units) (pv 1) (pv 0) (λ_ _=>rfl)))))))),?_⟩
 rintro ds c ⟨xs,⟨rfl,hz⟩,rfl⟩
 show Sv K _ _ _ [some (.d (.list (xs.map e))),none,none,none] _
 walk_at "vi"
 refine Zoc (α:=α) ?_
 walk_at "vi"
 refine⟨_,xs,e,rfl,rfl,⟨_,rfl⟩,λi ρ=>∃ (kvs:List (α×PyData)) (o1 o2:Option AV),ρ=[some (.d (.list (xs.map e))),some (.dic (encD e kvs)),o1,o2]/\FstI xs i kvs,⟨[],none,none,rfl,FstI.zero xs⟩,?_,?_⟩
 ·rintro i ρ hi ⟨kvs,o1,o2,rfl,I⟩
  refine Zfg ?_
  walk_at "vi"
  refine ZkM (λρ=>∃ (kvs:List (α×PyData)),ρ=[some (.d (.list (xs.map e))),some (.dic (encD e kvs)),some (.d (.int i)),some (.d (e xs[i]))]/\FstI xs (i+1) kvs) (λρ ⟨kvs,e,I⟩=>⟨kvs,_,_,e,I⟩) ?_
  walk_at "vi"
  refine Zjd F (c:=xs[i]) (kvs:=kvs) rfl rfl ?_
  rw[I.2]
  by_cases hm:xs[i]∈xs.take i
  ·rw[if_pos hm]
   walk_at "vi"
   show (if (!true)=true then _ else _)
   refine iteNT ?_
   walk_at "vi"
   exact⟨kvs,rfl,I.old hi hm⟩
  ·rw[if_neg hm]
   walk_at "vi"
   show (if (!false)=true then _ else _)
   refine iteNF ?_
   walk_at "vi"
   refine ZlD F (by have:=I.1;omega) ?_
   walk_at "vi"
   refine⟨_,xs[i],rfl,rfl,NR.av,?_⟩
   exact⟨_,rfl,I.new hi hm⟩
 ·rintro ρ ⟨kvs,o1,o2,rfl,I⟩
  walk_at "vi"
  refine ZcM (α:=α) ?_
  walk_at "vi"
  refine⟨xs,e,λx=>.d (.int (xs.idxOf x:Nat)),.inl rfl,NR.av,by omega,λi hi=>?_,_,Got.own (ZaH λ_=>rfl),?_⟩
  ·show Gv K _ _ [none,some (.d (.dict (encD e kvs)))] _
   walk_at "vi"
   refine⟨wk_0,?_⟩
   walk_at "vi"
   exact Zmq F (c:=xs[i]) (kvs:=kvs) rfl rfl (I.get hi) (Item.flat rfl) rfl
  refine Zf6 ?_
  rw[oI,feI,List.map_map]
  rfl
theorem ZdO(T:Txt K mg){α:Type}[DecidableEq α]{e:α->PyData}(F:KEnc e):Cal P w K mg base CX0 1 "first_equals" ["things"] [] (spV K (Zor e) NX):=by
 refine val T.x_first_equals Zax (λds c ⟨xs,⟨e,_⟩,_⟩=>by rw[e];rfl) (λf cdv A outer s H E hr=>?_) [] (by simp)
 refine⟨_,(Zac (Zal (i:=1) Zax.nd rfl (Or.inr rfl) Zhj)
   (Zac (ZcI PassesOwn.never rfl (Zf9 (K:=K) rfl rfl T.n_enumerate (Zaa (pv 0) Zab)) (Zfa (K:=K) (n:=2) rfl rfl (ZbK (Zav (i:=2) Zax.nd rfl (Or.inl rfl)) (ZbK (Zav (i:=3) Zax.nd rfl (Or.inl rfl)) Ze7)))
    (Zaf (Zhs (ZaA (Zci (K:=K) rfl hr.units) (pv 3) (pv 1) (by with_unfolding_all rfl))
     (Zaf (Zhg (pv 2) (Zhf (pv 1) (pv 3) (Zfb hr.units))))
     ZaY)))
   (Zaf (Zap (Zbs (N:=["thing", "firsts"]) (cap:=[none,some 1]) rfl rfl rfl (by kernel_rfl) (ZbD (K:=K) rfl (pv 0)) (λ_ _ _ _=>(Zav (i:=0) (show (["thing", "firsts"]:List Str).Nodup from by decide +kernel) rfl (Or.inl rfl))) (λ_ _ _ _=>ZaV) (λ_ _ _ _=>(Zao (Zag (K:=K) rfl hr.units) (pv 1) (pv 0) (λ_ _=>rfl)))))))),?_⟩
 rintro ds c ⟨xs,⟨rfl,hz⟩,rfl⟩
 show Sv K _ _ _ [some (.d (.tuple (xs.map e))),none,none,none] _
 walk_at "vi"
 refine Zod (α:=α) ?_
 walk_at "vi"
 refine⟨_,xs,e,rfl,rfl,NR.av,⟨_,rfl⟩,λi ρ=>∃ (kvs:List (α×PyData)) (o1 o2:Option AV),ρ=[some (.d (.tuple (xs.map e))),some (.dic (encD e kvs)),o1,o2]/\FstI xs i kvs,⟨[],none,none,rfl,FstI.zero xs⟩,?_,?_⟩
 ·rintro i ρ hi ⟨kvs,o1,o2,rfl,I⟩
  refine Zfg ?_
  walk_at "vi"
  refine ZkM (λρ=>∃ (kvs:List (α×PyData)),ρ=[some (.d (.tuple (xs.map e))),some (.dic (encD e kvs)),some (.d (.int i)),some (.d (e xs[i]))]/\FstI xs (i+1) kvs) (λρ ⟨kvs,e,I⟩=>⟨kvs,_,_,e,I⟩) ?_
  walk_at "vi"
  refine Zjd F (c:=xs[i]) (kvs:=kvs) rfl rfl ?_
  rw[I.2]
  by_cases hm:xs[i]∈xs.take i
  ·rw[if_pos hm]
   walk_at "vi"
   show (if (!true)=true then _ else _)
   refine iteNT ?_
   walk_at "vi"
   exact⟨kvs,rfl,I.old hi hm⟩
  ·rw[if_neg hm]
   walk_at "vi"
   show (if (!false)=true then _ else _)
   refine iteNF ?_
   walk_at "vi"
   refine ZlD F (by have:=I.1;omega) ?_
   walk_at "vi"
   refine⟨_,xs[i],rfl,rfl,NR.av,?_⟩
   exact⟨_,rfl,I.new hi hm⟩
 ·rintro ρ ⟨kvs,o1,o2,rfl,I⟩
  walk_at "vi"
  refine ZcM (α:=α) ?_
  walk_at "vi"
  refine⟨xs,e,λx=>.d (.int (xs.idxOf x:Nat)),.inr rfl,NR.av,by omega,λi hi=>?_,_,Got.own (ZaH λ_=>rfl),?_⟩
  ·show Gv K _ _ [none,some (.d (.dict (encD e kvs)))] _
   walk_at "vi"
   refine⟨wk_0,?_⟩
   walk_at "vi"
   exact Zmq F (c:=xs[i]) (kvs:=kvs) rfl rfl (I.get hi) (Item.flat rfl) rfl
  refine Zf6 ?_
  rw[oI,feI,List.map_map]
  rfl
theorem Zos{n L:Nat}{nx:Nat->Nat->Nat}{al:List Int}:feI ((List.range n).map (keyL L nx al))=nxtL n L nx al:=by
 unfold feI nxtL fstI
 rw[List.map_map]
 rfl
theorem ZmX(p:Int×List Int):noLst (dQ p)=true:=by
 simp only[noLst,noLsts,Bool.and_true,Bool.true_and]
 exact ZaB _
abbrev keysM(M:Mach)(al:List Int):List (Int×List Int):=(List.range M.rows.length).map (keyL (ltr M) (nxM M) al)
theorem ZmY{M:Mach}{al:List Int}(hP:Parts 1 64 M){i:Nat}(hi:i<M.rows.length):(M.rows[i].map λy=>tl al y.toNat)=(List.range (ltr M)).map λl=>tl al (nxM M i l):=by
 have hr:=(hP.row _ (List.getElem_mem hi)).1
 refine List.ext_getElem (by rw[List.length_map,List.length_map,List.length_range];exact hr) λl h1 h2=>?_
 rw[List.length_map] at h1
 rw[List.getElem_map,List.getElem_map,List.getElem_range]
 congr 1
 unfold nxM stp
 rw[Int.toNat_natCast,Int.toNat_natCast,List.getD_eq_getElem?_getD (l:=M.rows),List.getElem?_eq_getElem hi]
 show _=(M.rows[i].getD l 0).toNat
 rw[List.getD_eq_getElem?_getD,List.getElem?_eq_getElem h1]
 rfl
theorem ZpP{o o':Option AV}{r:Sl}:Wk (o::o'::r) (none::none::r):=λ_ _ _ _ _ _ s=>(s.drop (i:=0)).drop (i:=1)
def Zot(ds:List PyData)(M:Mach)(al:List Int):Prop:=ds=[tR M.rows,dI al]/\Parts 1 64 M/\al.length=M.rows.length
def Zou(ds:List PyData)(c:AV):Prop:=∃ M al,Zot ds M al/\c=oI (nxtL M.rows.length (ltr M) (nxM M) al)
theorem ZgX(T:Txt K mg):Cal P w K mg base CX0 2 "parted" ["rows", "alike"] [] (spV K Zou NX):=by
 have c_first_equals:Cal P w K mg base CX0 1 "first_equals" ["things"] [] (spV K (S_fe dQ) NX):=Zel T KEnc.nest
 refine val T.x_parted ZjF (λds c ⟨M,al,⟨e,_⟩,_⟩=>by rw[e];rfl) (λf cdv A outer s H E hr=>?_) [] (by simp)
 refine⟨_,(Zaf (Zap (Zai (c_first_equals.mono (by decide)) hr rfl pass0 (Zaa (Zbs (N:=["room", "row", "alike"]) (cap:=[none,none,some 1]) rfl rfl rfl (by kernel_rfl) (Zf9 (K:=K) rfl rfl T.n_enumerate (Zaa (pv 0) Zab)) (λ_ _ _ _=>(Zfa (K:=K) (n:=2) rfl rfl (ZbK (Zav (i:=0) (show (["room", "row", "alike"]:List Str).Nodup from by decide +kernel) rfl (Or.inl rfl)) (ZbK (Zav (i:=1) (show (["room", "row", "alike"]:List Str).Nodup from by decide +kernel) rfl (Or.inl rfl)) Ze7)))) (λ_ _ _ _=>ZaV) (λ_ _ _ _=>(ZbM (Zaa (Zao (Zag (K:=K) rfl hr.units) (pv 2) (pv 0) (λ_ _=>rfl)) (Zaa (ZaD (ZaQ (K:=K) rfl) rfl T.n_tuple PyProof.Rows.boot_tuple (Zaa (Zbs (N:=["led", "alike"]) (cap:=[none,some 2]) rfl rfl rfl (by kernel_rfl) (ZbD (K:=K) rfl (pv 1)) (λ_ _ _ _=>(Zav (i:=0) (show (["led", "alike"]:List Str).Nodup from by decide +kernel) rfl (Or.inl rfl))) (λ_ _ _ _=>ZaV) (λ_ _ _ _=>(Zao (Zag (K:=K) rfl hr.units) (pv 1) (pv 0) (λ_ _=>rfl)))) Zab)) Zab))))) Zab)))),?_⟩
 rintro ds c ⟨M,al,⟨rfl,hP,hl⟩,rfl⟩
 show Sv K _ _ _ [some (.d (tR M.rows)),some (.d (dI al))] _
 have hn1:=hP.n1
 have hl1:=hP.l1
 walk_at "vi"
 refine Zhx (Zhy ?_)
 walk_at "vi"
 refine⟨_,M.rows.map tI,rfl,rfl,NR.av,by rw[List.length_map];omega,λn ys=>n<=M.rows.length/\ys=((List.range n).map (keyL (ltr M) (nxM M) al)).map λk=>.d (dQ k),⟨Nat.zero_le _,rfl⟩,λi ys hi iy=>?_,λys iy=>?_⟩
 ·rw[List.length_map] at hi
  obtain⟨_,rfl⟩:=iy
  have eg:(M.rows.map tI).getD i .none=tI M.rows[i]:=by rw[List.getD_eq_getElem?_getD,List.getElem?_map,List.getElem?_eq_getElem hi];rfl
  show Gv K _ (.tuple [.int i,(M.rows.map tI).getD i .none]) [none,none,some (.d (dI al))] _
  rw[eg]
  refine Zfg ?_
  walk_at "vi"
  refine⟨ZpP,Zjg ?_⟩
  walk_at "vi"
  refine ZbC ?_
  walk_at "vi"
  refine ix_L rfl (ZdW (by omega) (by omega)) (Item.flat rfl) ?_
  walk_at "vi"
  refine ZcM (α:=Int) ?_
  walk_at "vi"
  refine⟨M.rows[i],PyData.int,λy=>.d (.int (tl al y.toNat)),.inr rfl,NR.av,by have:=(hP.row _ (List.getElem_mem hi)).1;omega,λl hlt=>?_,_,Got.own (ZaH λ_=>rfl),?_⟩
  ·have hy:=(hP.row _ (List.getElem_mem hi)).2 _ (List.getElem_mem hlt)
   show Gv K _ _ [none,some (.d (dI al))] _
   walk_at "vi"
   refine⟨wk_0,?_⟩
   walk_at "vi"
   exact ix_L rfl (ZdW hy.1 (by omega)) (Item.flat rfl) rfl
  walk_at "vi"
  refine Zbt (ds:=(M.rows[i].map λy=>tl al y.toNat).map .int) (by rw[TV.data,AV.data,Zaw,List.map_map];rfl) (Kp.flat (ZaB _)) ?_
  rw[ZmY hP hi]
  walk_at "vi"
  refine⟨[.d (.int (tl al i)),.d (tI ((List.range (ltr M)).map λl=>tl al (nxM M i l)))],.cons rfl (.cons rfl .nil),by show 2<=1000;decide,?_⟩
  refine⟨.d (dQ (keyL (ltr M) (nxM M) al i)),rfl,by omega,?_⟩
  rw[List.range_succ,List.map_append,List.map_append]
  rfl
 ·rw[List.length_map] at iy
  obtain⟨_,rfl⟩:=iy
  refine⟨_,Got.own (ZaH λk=>ZmX k),?_⟩
  walk_at "vi"
  refine ZaR (by walk_at "nrs") ⟨keysM M al,⟨?_,?_⟩,rfl⟩ (Got.own (ZbB _)) ?_
  ·simp only[List.map_cons,List.map_nil,List.append_nil]
   rw[TV.data,AV.data,Zaw]
  ·rw[List.length_map,List.length_range];omega
  exact Zf6 (by rw[Zos])
theorem ZhS{al:List Int}{n:Nat}(h:al.length=n):setN al=cnt n (tl al):=by
 have e:al=(List.range n).map (tl al):=by
  refine List.ext_getElem (by simp[h]) λi h1 h2=>?_
  simp[tl,List.getD_eq_getElem?_getD,List.getElem?_eq_getElem h1]
 unfold setN
 have:=(ZlG (tl al) n).2
 rw[<- e] at this
 exact this
def Ze2(cs:List AV):Prop:=∃ M:Mach,cs=[.d (dM M)]/\Parts 1 64 M
def Zj2(cs:List AV)(c:AV):Prop:=∃ (M:Mach) (R:List Int),cs=[.d (dM M)]/\LotsM M R/\c=oI R
theorem Zov{α:Type}[DecidableEq α](xs:List α):(feI xs).length=xs.length:=List.length_map ..
theorem ZpQ{xs:List Int}{n:Nat}(hn:xs.length=n):∀ i j,i<n->j<n->(tl (feI xs) i=tl (feI xs) j↔tl xs i=tl xs j):=by
 subst hn
 have e:∀ i,i<xs.length->tl (feI xs) i=(xs.idxOf (tl xs i):Int):=λi hi=>by
  unfold tl feI
  rw[List.getD_eq_getElem?_getD,List.getElem?_map,List.getD_eq_getElem?_getD,List.getElem?_eq_getElem hi]
  rfl
 have m:∀ i,i<xs.length->tl xs i∈xs:=λi hi=>Zaq hi
 intro i j hi hj
 rw[e i hi,e j hj]
 refine⟨λh=>?_,λh=>by rw[h]⟩
 have h:xs.idxOf (tl xs i)=xs.idxOf (tl xs j):=by omega
 have h1:=List.getElem_idxOf (List.idxOf_lt_length_of_mem (m i hi))
 have h2:=List.getElem_idxOf (List.idxOf_lt_length_of_mem (m j hj))
 rw[<- h1,<- h2]
 congr 1
theorem ZeE(T:Txt K mg):Cal P w K mg base CX0 3 "first_alike" ["machine"] [] (spR K Ze2 Zj2 NP):=by
 have c_first_equals:Cal P w K mg base CX0 1 "first_equals" ["things"] [] (spV K (Zor PyData.int) NX):=ZdO T KEnc.int
 have c_parted:Cal P w K mg base CX0 2 "parted" ["rows", "alike"] [] (spV K Zou NX):=ZgX T
 refine valR T.x_first_alike Za1 (λcs ⟨M,e,_⟩=>by rw[e];rfl) (λf cdv A outer s H E hr=>?_) [] (by simp)
 refine⟨_,(Zac (Zal (i:=1) Za1.nd rfl (Or.inl rfl) (Zai (c_first_equals.mono (by decide)) hr rfl pass0 (Zaa (Zao (Zag (K:=K) rfl hr.units) (pv 0) Zae (λ_ _=>rfl)) Zab)))
   (Zac (Zal (i:=2) Za1.nd rfl (Or.inl rfl) Zae)
   (Zac (ZdR PassesOwn.never (ZaA Zkv (pv 2) (Zaz Zec rfl T.n_len PySem.boot_len (Zaa (ZaD (ZeQ (K:=K) rfl rfl) rfl T.n_set PyProof.Rows.boot_set (Zaa (pv 1) Zab)) Zab)) (nomark _))
    (Zac (Zal (i:=2) Za1.nd rfl (Or.inl rfl) (Zaz Zec rfl T.n_len PySem.boot_len (Zaa (ZaD (ZeQ (K:=K) rfl rfl) rfl T.n_set PyProof.Rows.boot_set (Zaa (pv 1) Zab)) Zab)))
    (Zaf (Zal (i:=1) Za1.nd rfl (Or.inl rfl) (Zai (c_parted.mono (by decide)) hr rfl pass0 (Zaa (Zao (Zag (K:=K) rfl hr.units) (pv 0) Zae (λ_ _=>rfl)) (Zaa (pv 1) Zab)))))))
   (Zaf (Zap (pv 1)))))),?_⟩
 rintro cs ⟨M,rfl,hP⟩
 show Sv K _ _ _ [some (.d (dM M)),none,none] _
 have hn0:=hP.n0
 have hn1:=hP.n1
 have hs:=hP.s
 walk_at "vi"
 refine ZaR (by walk_at "nrs") ⟨M.signs,⟨rfl,by omega⟩,rfl⟩ (Got.own (ZbB _)) ?_
 have hsame:=ZpQ (xs:=M.signs) hs
 have hfl:(feI M.signs).length=M.rows.length:=by rw[Zov];exact hs
 generalize feI M.signs=al0 at hsame hfl
 walk_at "vi"
 refine Zfd (λm ρ=>∃ (al:List Int) (k:Nat),ρ=[some (.d (dM M)),some (oI al),some (.d (.int k))]/\al.length=M.rows.length/\k<=M.rows.length/\(∀ R,Ref M.rows.length (ltr M) (nxM M) al k R->Ref M.rows.length (ltr M) (nxM M) al0 0 R)/\m=M.rows.length-k) M.rows.length ⟨al0,0,rfl,hfl,Nat.zero_le _,λR h=>h,rfl⟩ ?_
 rintro m ρ ⟨al,k,rfl,hal,hk,hR,rfl⟩
 have hcl:=ZjV M.rows.length (tl al)
 walk_at "vi"
 refine ZhB (ks:=al) (Zbk al) (by omega) ?_
 walk_at "vi"
 refine Zgb ?_
 rw[ZhS hal]
 walk_at "vi"
 refine ite2 (λh=>?_) λh=>?_
 ·have hlt:k<cnt M.rows.length (tl al):=by have:=of_decide_eq_true h;omega
  walk_at "vi"
  refine ZhB (ks:=al) (Zbk al) (by omega) ?_
  walk_at "vi"
  refine Zgb ?_
  rw[ZhS hal]
  walk_at "vi"
  refine ZaR (by walk_at "nrs") ⟨M,al,⟨?_,hP,hal⟩,rfl⟩ (Got.own (ZbB _)) ?_
  ·show [tR M.rows,(oI al).data]=_
   rw[Zbk]
  walk_at "vi"
  exact⟨M.rows.length-cnt M.rows.length (tl al),by omega,_,_,rfl,ZhQ,hcl,λR hr=>hR R (.step hlt hr),rfl⟩
 ·have hge:cnt M.rows.length (tl al)<=k:=by
   have:¬ ((k:Int)<(cnt M.rows.length (tl al):Nat)):=λz=>h (decide_eq_true z)
   omega
  walk_at "vi"
  exact⟨_,Zf6 rfl,M,al,rfl,⟨al0,hsame,(hR al (.done hge)).lots0 hn0 (ZhR hP)⟩,rfl⟩
def ZcD(cs:List AV)(c:AV):Prop:=∃ (M:Mach) (R F:List Int),cs=[.d (dM M)]/\LotsM M R/\Rb M R F/\c=.d (dM (outM M R F))
theorem ZhT(T:Txt K mg)(B:base.BuiltinsAt mg mainGlobals)(hTs:∀ p∈ts0,p∈Tabs.ts):Cal P w K mg base CX0 6 "least" ["machine"] [] (spR K Ze2 ZcD NP):=by
 have c_reached_by:Cal P w K mg base CX0 5 "reached_by" ["machine", "stands"] [] (spR K ZlF ZjR NP):=ZfE T B hTs
 have c_first_alike:Cal P w K mg base CX0 3 "first_alike" ["machine"] [] (spR K Ze2 Zj2 NP):=ZeE T
 refine valR T.x_least Zk9 (λcs ⟨M,e,_⟩=>by rw[e];rfl) (λf cdv A outer s H E hr=>?_) [] (by simp)
 refine⟨_,(Zaf (Zap (Zai (c_reached_by.mono (by decide)) hr rfl pass0 (Zaa (pv 0) (Zaa (Zai (c_first_alike.mono (by decide)) hr rfl pass0 (Zaa (pv 0) Zab)) Zab))))),?_⟩
 rintro cs ⟨M,rfl,hP⟩
 show Sv K _ _ _ [some (.d (dM M))] _
 walk_at "vm"
 refine⟨[.d (dM M)],.cons (.d NR.av rfl) .nil,⟨M,rfl,hP⟩,λc ⟨M',R,e,hl,ec⟩=>?_,λ_ z=>z.elim⟩
 simp only[List.append_nil,List.cons.injEq,AV.d.injEq,and_true] at e
 have e1:=ZhK e
 subst e1 ec
 refine⟨_,Got.own (ZbB _),?_⟩
 walk_at "vm"
 refine⟨[.d (dM M),.d (dI R)],.cons (.d NR.av rfl) (.cons (.d NR.av (Zbk _)) .nil),⟨M,R,rfl,hP,hl.sok⟩,λc ⟨M',st',F,e,h1,h2,h3,ec⟩=>?_,λ_ z=>z.elim⟩
 simp only[List.append_nil,List.cons.injEq,AV.d.injEq,and_true] at e
 have e1:=ZhK e.1
 subst e1
 have e2:=ZjS e.2
 subst e2
 subst ec
 exact⟨_,Got.own (Zct _),_,ZaZ rfl,M,R,F,rfl,hl,⟨hP,hl.sok,h1,h2,h3⟩,rfl⟩
theorem Zem{Q:TV->Prop}{X:Exc->Prop}{M:Mach}(hP:Parts 1 64 M)(q:∀ R F,LotsM M R->Rb M R F->Q (.av (.d (dM (outM M R F))))):ClR Ze2 ZcD NP [] Q X [.av (.d (dM M))] :=
 ⟨[.d (dM M)],.cons (.d NR.av rfl) .nil,⟨M,rfl,hP⟩,λc ⟨M',R,F,e,h1,h2,ec⟩=>by
  simp only[List.append_nil,List.cons.injEq,AV.d.injEq,and_true] at e
  have e1:=ZhK e
  subst e1 ec
  exact⟨_,Got.own (Zct _),q R F h1 h2⟩,λ_ z=>z.elim⟩
theorem ZmZ{α:Type}{f:α->PyData}{xs:List α}{k:Int}{d:α}(h0:0<=k)(h:k<xs.length):atI (xs.map f) k=some (f (xs.getD k.toNat d)):=by
 have e:k.toNat<xs.length:=by omega
 exact Zf4 h0 (by rw[List.getElem?_map,List.getElem?_eq_getElem e,List.getD_eq_getElem?_getD,List.getElem?_eq_getElem e];rfl)
structure OnceI(ns ys:List Int):Prop where
 s:ys.Pairwise (·<=·)
 d:ys.Nodup
 m:∀ y,y∈ys↔y∈ns
theorem OnceI.one{ns ys zs:List Int}(h:OnceI ns ys)(g:OnceI ns zs):ys=zs :=
 List.Perm.eq_of_pairwise (le:=(·<=·)) (λa b _ _ h1 h2=>Int.le_antisymm h1 h2) h.s g.s ((List.perm_ext_iff_of_nodup h.d g.d).mpr λy=>(h.m y).trans (g.m y).symm)
def ledL(rows:List (List Int))(rooms codes:List Int):List Int:=codes.flatMap λc=>rooms.map λr=>stp rows r c
theorem Zj3(rows:List (List Int))(rooms codes:List Int):(ledL rows rooms codes).length=codes.length*rooms.length:=by
 unfold ledL
 induction codes with
 | nil=>simp
 | cons c cs ih=>rw[List.flatMap_cons,List.length_append,List.length_map,ih,List.length_cons,Nat.succ_mul];omega
theorem Zj4{n:Nat}:∀ {zs:List Int},zs.Nodup->(∀ z∈zs,0<=z/\z<n)->zs.length<=n:=by
 induction n with
 | zero =>
  intro zs _ h
  cases zs with
  | nil=>exact Nat.le_refl _
  | cons z _=>have:=h z (.head _);omega
 | succ n ih =>
  intro zs nd h
  have h1:=ih (zs:=zs.filter λz=>decide (z≠(n:Int))) (nd.sublist List.filter_sublist) λz hz=>by
   have:=List.mem_filter.mp hz
   have h2:=h z this.1
   have h3:z≠(n:Int):=by simpa using this.2
   omega
  have h2:zs.length<=(zs.filter λz=>decide (z≠(n:Int))).length+1:=by
   clear h1 h ih
   induction zs with
   | nil=>exact Nat.zero_le _
   | cons z zs ih =>
    obtain⟨q1,q2⟩:=List.nodup_cons.mp nd
    by_cases e:z=(n:Int)
    ·have:(zs.filter λz=>decide (z≠(n:Int)))=zs:=List.filter_eq_self.mpr λy hy=>by
      have:y≠(n:Int):=λw=>q1 (by rw[e,<- w];exact hy)
      simpa using this
     rw[List.filter_cons_of_neg (by simp[e]),this]
     exact Nat.le_refl _
    ·rw[List.filter_cons_of_pos (by simp[e])]
     have:=ih q2
     simp only[List.length_cons]
     omega
  omega
structure LdOk(rows:List (List Int))(rooms codes:List Int):Prop where
 n:rows.length<=60
 r:∀ x∈rooms,0<=x/\x<rows.length
 c:∀ k∈codes,0<=k/\∀ x∈rows,k<x.length
 y:∀ x∈rows,∀ z∈x,0<=z/\z<rows.length
 l:rooms.length*codes.length<=4000
def ZfH(cs:List AV):Prop:=∃ (rows:List (List Int)) (rooms codes:List Int),cs=[.d (tR rows),.d (tI rooms),.d (dI codes)]/\LdOk rows rooms codes
def ZdY(cs:List AV)(c:AV):Prop:=∃ (rows:List (List Int)) (rooms codes ys:List Int),cs=[.d (tR rows),.d (tI rooms),.d (dI codes)]/\OnceI (ledL rows rooms codes) ys/\c=.d (tI ys)
theorem LdOk.at{rows:List (List Int)}{rooms codes:List Int}(h:LdOk rows rooms codes){r k:Int}(hr:r∈rooms)(hk:k∈codes):0<=stp rows r k/\stp rows r k<rows.length:=by
 have h1:=h.r r hr
 have hx:=Zaq (d:=[]) (show r.toNat<rows.length by omega)
 have h2:=(h.c k hk).2 _ hx
 have h0:=(h.c k hk).1
 exact h.y _ hx _ (Zaq (d:=0) (by omega))
theorem ZdI(T:Txt K mg):Cal P w K mg base CX0 1 "led_rooms" ["rows", "rooms", "codes"] [] (spR K ZfH ZdY NP):=by
 refine valR T.x_led_rooms Zcr (λcs ⟨_,_,_,e,_⟩=>by rw[e];rfl) (λf cdv A outer s H E hr=>?_) [] (by simp)
 refine⟨_,(Zac (Zal (i:=3) Zcr.nd rfl (Or.inl rfl) (Zcb Zab))
   (Zac (ZcI PassesOwn.never rfl (ZbD (K:=K) rfl (pv 2)) (Zav (i:=4) Zcr.nd rfl (Or.inr rfl))
    (Zaf (Za9 (ZcK (K:=K) rfl PySem.F.plainAttrs_list PySem.F.slot_list_extend PySem.F.type_list_extend ZiS (pv 3) (Zaa (Zbs (N:=["room", "rows", "code"]) (cap:=[none,some 0,some 4]) rfl rfl rfl (by kernel_rfl) (ZbD (K:=K) rfl (pv 1)) (λ_ _ _ _=>(Zav (i:=0) (show (["room", "rows", "code"]:List Str).Nodup from by decide +kernel) rfl (Or.inl rfl))) (λ_ _ _ _=>ZaV) (λ_ _ _ _=>(Zao (Zag (K:=K) rfl hr.units) (Zao (Zag (K:=K) rfl hr.units) (pv 1) (pv 0) (λ_ _=>rfl)) (pv 2) (λ_ _=>rfl)))) Zab)))))
   (Zaf (Zap (ZaD (ZaQ (K:=K) rfl) rfl T.n_tuple PyProof.Rows.boot_tuple (Zaa (Zaz (Zir (P:=P) (w:=w) rfl rfl rfl) rfl T.n_sorted PyProof.Rows.boot_sorted (Zaa (ZaD (ZjB (P:=P) (w:=w) (K:=K) rfl rfl rfl rfl) rfl T.n_set PyProof.Rows.boot_set (Zaa (pv 3) Zab)) Zab)) Zab)))))),?_⟩
 rintro cs ⟨rows,rooms,codes,rfl,h⟩
 have hl:=h.l
 show Sv K _ _ _ [some (.d (tR rows)),some (.d (tI rooms)),some (.d (dI codes)),none,none] _
 walk_at "vi"
 refine Zmm (α:=Int) ?_
 walk_at "vi"
 refine⟨codes,PyData.int,.inl rfl,⟨_,rfl⟩,λi ρ=>∃ o,ρ=[some (.d (tR rows)),some (.d (tI rooms)),some (.d (dI codes)),some (oI (ledL rows rooms (codes.take i))),o],⟨none,rfl⟩,?_,?_⟩
 ·rintro i ρ hi ⟨o,rfl⟩
  walk_at "v"
  have hci:=List.getElem_mem hi
  have hk:=h.c _ hci
  have hrl:rooms.length<=4000:=Nat.le_trans (Nat.le_mul_of_pos_right _ (by omega)) hl
  have htl:(codes.take i).length*rooms.length<=4000:=Nat.le_trans (by rw[Nat.mul_comm];exact Nat.mul_le_mul_left _ (by rw[List.length_take];omega)) hl
  refine Zjo (n:=3) rfl ?_
  refine ZcM (α:=Int) ?_
  walk_at "vi"
  refine⟨rooms,PyData.int,λr=>.d (.int (stp rows r codes[i])),.inr rfl,NR.av,by omega,λj hj=>?_,_,Got.own (ZaH λ_=>rfl),?_⟩
  ·have hr:=h.r _ (List.getElem_mem hj)
   have hx:=Zaq (d:=[]) (show (rooms[j]).toNat<rows.length by omega)
   have h2:=hk.2 _ hx
   show Gv K _ _ [none,some (.d (tR rows)),some (.d (.int codes[i]))] _
   walk_at "vi"
   refine⟨wk_0,?_⟩
   walk_at "vi"
   refine ix_T rfl (ZmZ (f:=tI) (d:=[]) hr.1 hr.2) Item.d ?_
   walk_at "vi"
   refine ix_T rfl (ZmZ (f:=PyData.int) (d:=0) hk.1 h2) Item.d ?_
   rfl
  refine⟨_,rfl,by rw[List.length_map,Zj3,List.length_map];omega,?_⟩
  refine⟨some (.d (.int codes[i])),?_⟩
  have e:ledL rows rooms (codes.take (i+1))=ledL rows rooms (codes.take i)++rooms.map λr=>stp rows r codes[i]:=by
   unfold ledL
   rw[List.take_add_one,List.getElem?_eq_getElem hi,List.flatMap_append]
   simp
  rw[e]
  show [_,_,_,some (AV.own _),_]=_
  rw[show oI (ledL rows rooms (codes.take i)++rooms.map λr=>stp rows r codes[i])=AV.own ((ledL rows rooms (codes.take i)).map (λk=>.d (.int k))++rooms.map λr=>.d (.int (stp rows r codes[i]))) by show AV.own (List.map _ _)=_;rw[List.map_append,List.map_map];rfl]
 rintro ρ ⟨o,rfl⟩
 rw[List.take_length]
 walk_at "vi"
 refine ZmK (P:=P) (w:=w) (ns:=ledL rows rooms codes) (by rw[TV.data,Zaw]) (by rw[Zj3,Nat.mul_comm];exact hl) λzs n1 m1 l1=>?_
 walk_at "vi"
 have hzl:zs.length<=60:=Nat.le_trans (Zj4 n1 λz hz=>by
  have:=(m1 z).mp hz
  unfold ledL at this
  obtain⟨c,hc,hz2⟩:=List.mem_flatMap.mp this
  obtain⟨r,hr,rfl⟩:=List.mem_map.mp hz2
  exact h.at hr hc) h.n
 refine Zk7 (by omega) λys p1 p2=>?_
 walk_at "vi"
 refine Zbt (ds:=ys.map .int) (Zbk ys) (.inr (ZaB _)) ?_
 exact⟨_,ZaZ rfl,rows,rooms,codes,ys,rfl,⟨p2,p1.nodup_iff.mpr n1,λy=>p1.mem_iff.trans (m1 y)⟩,rfl⟩
theorem Zj5{a b:List Int}(h:tI a=tI b):a=b:=(List.map_inj_right λx y e=>PyData.int.inj e).mp (PyData.tuple.inj h)
theorem ZlI{a b:List (List Int)}(h:tR a=tR b):a=b:=(List.map_inj_right λx y e=>Zj5 e).mp (PyData.tuple.inj h)
theorem ZgY{Q:TV->Prop}{X:Exc->Prop}{rows:List (List Int)}{rooms codes:List Int}(h:LdOk rows rooms codes)(q:∀ ys,OnceI (ledL rows rooms codes) ys->Q (.av (.d (tI ys)))):ClR ZfH ZdY NP [] Q X [.av (.d (tR rows)),.av (.d (tI rooms)),.av (.d (dI codes))] :=
 ⟨[.d (tR rows),.d (tI rooms),.d (dI codes)],.cons (.d NR.av rfl) (.cons (.d NR.av rfl) (.cons (.d NR.av rfl) .nil)),⟨rows,rooms,codes,rfl,h⟩,λc ⟨r1,r2,r3,ys,e,o,ec⟩=>by
  simp only[List.append_nil,List.cons.injEq,AV.d.injEq,and_true] at e
  have e1:=ZlI e.1
  have e2:=Zj5 e.2.1
  have e3:=ZjS e.2.2
  subst e1 e2 e3 ec
  exact⟨_,Got.own (Zc6 ys),q ys o⟩,λ_ z=>z.elim⟩
inductive Rch(rows:List (List Int))(codes:List Int):Int->Prop
 | z:Rch rows codes 0
 | s {r c:Int} (h:Rch rows codes r) (hc:c∈codes):Rch rows codes (stp rows r c)
structure FrOk(rows:List (List Int))(codes:List Int):Prop where
 n0:0<rows.length
 n:rows.length<=60
 c:∀ k∈codes,0<=k/\∀ x∈rows,k<x.length
 y:∀ x∈rows,∀ z∈x,0<=z/\z<rows.length
 l:codes.length<=64
 z:∃ k∈codes,stp rows 0 k=0
theorem FrOk.ld{rows:List (List Int)}{rooms codes:List Int}(h:FrOk rows codes)(hr:∀ x∈rooms,0<=x/\x<rows.length)(nd:rooms.Nodup):LdOk rows rooms codes :=
 ⟨h.n,hr,h.c,h.y,Nat.le_trans (Nat.mul_le_mul (Nat.le_trans (Zj4 nd hr) h.n) h.l) (by decide)⟩
theorem ZbI{rows:List (List Int)}{rooms codes:List Int}{y:Int}:y∈ledL rows rooms codes↔∃ c∈codes,∃ r∈rooms,y=stp rows r c:=by
 unfold ledL
 rw[List.mem_flatMap]
 constructor
 ·rintro⟨c,hc,h⟩
  obtain⟨r,hr,rfl⟩:=List.mem_map.mp h
  exact⟨c,hc,r,hr,rfl⟩
 ·rintro⟨c,hc,r,hr,rfl⟩
  exact⟨c,hc,List.mem_map.mpr ⟨r,hr,rfl⟩⟩
structure RmOk(rows:List (List Int))(codes rooms:List Int):Prop where
 s:rooms.Pairwise (·<=·)
 d:rooms.Nodup
 r:∀ x∈rooms,0<=x/\x<rows.length
 h:∀ x∈rooms,Rch rows codes x
 z:0∈rooms
def Zj6(cs:List AV):Prop:=∃ (rows:List (List Int)) (codes:List Int),cs=[.d (tR rows),.d (dI codes)]/\FrOk rows codes
def ZgZ(cs:List AV)(c:AV):Prop:=∃ (rows:List (List Int)) (codes ys:List Int),cs=[.d (tR rows),.d (dI codes)]/\RmOk rows codes ys/\(∀ y,Rch rows codes y->y∈ys)/\c=.d (tI ys)
theorem RmOk.next{rows:List (List Int)}{rooms codes led:List Int}(f:FrOk rows codes)(h:RmOk rows codes rooms)(o:OnceI (ledL rows rooms codes) led):RmOk rows codes led :=
 ⟨o.s,o.d,λx hx=>by obtain⟨c,hc,r,hr,rfl⟩:=ZbI.mp ((o.m x).mp hx);exact (f.ld h.r h.d).at hr hc,λx hx=>by obtain⟨c,hc,r,hr,rfl⟩:=ZbI.mp ((o.m x).mp hx);exact .s (h.h r hr) hc,(o.m 0).mpr (by obtain⟨k,hk,e⟩:=f.z;exact ZbI.mpr ⟨k,hk,0,h.z,e.symm⟩)⟩
theorem ZeF(T:Txt K mg):Cal P w K mg base CX0 2 "first_rooms" ["rows", "codes"] [] (spR K Zj6 ZgZ NP):=by
 have c_led_rooms:Cal P w K mg base CX0 1 "led_rooms" ["rows", "rooms", "codes"] [] (spR K ZfH ZdY NP):=ZdI T
 refine valR T.x_first_rooms Za2 (λcs ⟨_,_,e,_⟩=>by rw[e];rfl) (λf cdv A outer s H E hr=>?_) [] (by simp)
 refine⟨_,(Zac (Zal (i:=2) Za2.nd rfl (Or.inl rfl) (ZbM (Zaa Zae Zab)))
   (Zac (Zal (i:=3) Za2.nd rfl (Or.inl rfl) (Zai (c_led_rooms.mono (by decide)) hr rfl pass0 (Zaa (pv 0) (Zaa (pv 2) (Zaa (pv 1) Zab)))))
   (Zac (ZdR PassesOwn.never (ZaA (Zcl (K:=K) rfl hr.units) (pv 3) (pv 2) (nomark _))
    (Zac (Zal (i:=2) Za2.nd rfl (Or.inl rfl) (pv 3))
    (Zaf (Zal (i:=3) Za2.nd rfl (Or.inl rfl) (Zai (c_led_rooms.mono (by decide)) hr rfl pass0 (Zaa (pv 0) (Zaa (pv 2) (Zaa (pv 1) Zab))))))))
   (Zaf (Zap (pv 2)))))),?_⟩
 rintro cs ⟨rows,codes,rfl,h⟩
 have n0:=h.n0
 have h0:RmOk rows codes [0]:=⟨by simp,by simp,λx hx=>by rw[List.mem_singleton.mp hx];omega,λx hx=>by rw[List.mem_singleton.mp hx];exact .z,by simp⟩
 show Sv K _ _ _ [some (.d (tR rows)),some (.d (dI codes)),none,none] _
 walk_at "vi"
 refine ZbC ?_
 walk_at "vi"
 refine⟨[.d (.int 0)],.cons rfl .nil,by show 1<=1000;decide,?_⟩
 walk_at "vi"
 refine ZgY (rooms:=[0]) (h.ld h0.r h0.d) λl0 o0=>?_
 walk_at "vi"
 refine Zfd (λm ρ=>∃ rooms led:List Int,ρ=[some (.d (tR rows)),some (.d (dI codes)),some (.d (tI rooms)),some (.d (tI led))]/\RmOk rows codes rooms/\OnceI (ledL rows rooms codes) led/\(∀ x∈rooms,x∈led)/\m=rows.length-rooms.length) (rows.length-1) ⟨[0],l0,rfl,h0,o0,λx hx=>by rw[List.mem_singleton.mp hx];exact (h0.next h o0).z,rfl⟩ ?_
 rintro m ρ ⟨rooms,led,rfl,hr0,ho,hs,rfl⟩
 have hn:=hr0.next h ho
 have hll:=Zj4 hn.d hn.r
 walk_at "vi"
 refine ne_d (f:=tI) (c:=led) (d:=rooms) Enc.int.tuple rfl rfl ?_
 refine⟨_,rfl,?_⟩
 refine ite2 (λhne=>?_) λheq=>?_
 ·have hne:led≠rooms:=by simpa using hne
  have hlt:rooms.length<led.length:=by
   refine Classical.byContradiction λhle=>hne (OnceI.one ho ⟨hr0.s,hr0.d,λy=>?_⟩)
   rw[<- ho.m y]
   refine⟨hs y,λhy=>Classical.byContradiction λhny=>hle ?_⟩
   have:=Zbq (met:=y::rooms) (U:=led) (List.nodup_cons.mpr ⟨hny,hr0.d⟩) λx hx=>by
    rcases List.mem_cons.mp hx with e|e
    ·rw[e];exact hy
    ·exact hs x e
   have this:rooms.length+1<=led.length:=by simpa using this
   exact this
  walk_at "vi"
  refine ZgY (h.ld hn.r hn.d) λl2 o2=>?_
  walk_at "vi"
  exact⟨rows.length-led.length,by omega,led,l2,rfl,hn,o2,λx hx=>by
   obtain⟨c,hc,r,hr,rfl⟩:=ZbI.mp ((ho.m x).mp hx)
   exact (o2.m _).mpr (ZbI.mpr ⟨c,hc,r,hs r hr,rfl⟩),rfl⟩
 ·have heq:led=rooms:=by simpa using heq
  walk_at "vi"
  refine⟨_,ZaZ rfl,rows,codes,rooms,rfl,hr0,λy hy=>?_,rfl⟩
  induction hy with
  | z=>exact hr0.z
  | s _ hc ih=>rw[<- heq];exact (ho.m _).mpr (ZbI.mpr ⟨_,hc,_,ih,rfl⟩)
def Zb8(ds:List PyData)(c:AV):Prop:=∃ b:Int,ds=[.int b]/\(2<=b/\b<=5)/\c=.d .none
theorem ZdJ(T:Txt K mg):Cal P w K mg base CX0 1 "want_base" ["base"] [] (spV K Zb8 NX):=by
 refine val T.x_want_base Zgh (λds c ⟨k,e,_⟩=>by rw[e];rfl) (λf cdv A outer s H E hr=>?_) [] (by simp)
 refine⟨_,(Zaf (Zdv (PW.pt (Zkt (ZaA Zkv (pv 0) (ZeO T.g_LEAST_BASE rfl) (nomark _)) (Zhe (ZaA ZiM (pv 0) (ZeO T.g_GREATEST_BASE rfl) (nomark _)))))
    (Zaf ZdQ)
    ZaY)),?_⟩
 rintro ds c ⟨b,rfl,hb,rfl⟩
 show Sv K _ _ _ [some (.d (.int b))] _
 walk_at "vs"
 refine iteN (by omega) ?_
 walk_at "vs"
 refine iteN (by omega) ?_
 walk_at "vs"
 rfl
theorem Zdt{Q:TV->Prop}{b:Int}(hb:2<=b/\b<=5)(q:Q (.av (.d .none))):Cl Zb8 [] Q [.av (.d (.int b))]:=ZaR (by walk_at "nrs") ⟨b,rfl,hb,rfl⟩ (Got.own rfl) q
def Zcw(ds:List PyData)(c:AV):Prop:=∃ n b:Int,ds=[.int n,.int b]/\(2<=b/\b<=5)/\0<=n/\n.toNat<2 ^ 900/\c=oI (figs b n)
theorem ZfI(T:Txt K mg):∀ dvs∈[[],[V.int 2]],Cal P w K mg base CX0 2 "figures_of" ["place", "base"] dvs (spV K Zcw NX):=by
 have c_want_base:Cal P w K mg base CX0 1 "want_base" ["base"] [] (spV K Zb8 NX):=ZdJ T
 refine val T.x_figures_of ZbA (λds c ⟨n,b,e,_⟩=>by rw[e];rfl) (λf cdv A outer s H E hr=>?_)
 refine⟨_,(Zac (Za9 (Zai (c_want_base.mono (by decide)) hr rfl pass0 (Zaa (pv 1) Zab)))
   (Zac (Zal (i:=2) ZbA.nd rfl (Or.inl rfl) (Zcb Zab))
   (Zac (Zal (i:=3) ZbA.nd rfl (Or.inl rfl) (pv 0))
   (Zac (ZdR PassesOwn.never (ZaA ZiM (pv 3) Zae (nomark _))
    (Zac (Za9 (ZcK (K:=K) rfl PySem.F.plainAttrs_list PySem.F.slot_list_append PySem.F.type_list_append Za0 (pv 2) (Zaa (ZaG ZbL (pv 3) (pv 1)) Zab)))
    (Zaf (Zal (i:=3) ZbA.nd rfl (Or.inl rfl) (ZaG Zd1 (pv 3) (pv 1))))))
   (Zac (Za9 (Zl7 (K:=K) rfl PySem.F.plainAttrs_list PySem.F.slot_list_reverse PySem.F.type_list_reverse Zie (pv 2)))
   (Zaf (Zap (pv 2)))))))),?_⟩
 rintro ds c ⟨n,b,rfl,hb,h0,h1,rfl⟩
 show Sv K _ _ _ [some (.d (.int n)),some (.d (.int b)),none,none] _
 walk_at "vs"
 refine Zdt hb ?_
 walk_at "vs"
 refine Zfd (λm ρ=>∃ (ds:List Int) (r:Int),ρ=[some (.d (.int n)),some (.d (.int b)),some (oI ds),some (.d (.int r))]/\Lig b n ds r/\m=r.toNat) n.toNat ⟨[],n,rfl,.start h0 h1,rfl⟩ ?_
 rintro m ρ ⟨ds,r,rfl,L,rfl⟩
 walk_at "vs"
 refine ite2 (λh=>?_) λh=>?_
 ·have hr0:0<r:=of_decide_eq_true h
  obtain⟨L',hl,hm⟩:=L.step hb.1 hb.2 hr0
  walk_at "vs"
  refine v_ap ?hz ?_
  case hz=>rw[List.length_map];omega
  walk_at "vs"
  exact⟨(r / b).toNat,hm,ds++[r%b],r / b,by rw[oI,List.map_append];rfl,L',rfl⟩
 ·have hr0:¬ 0<r:=λz=>h (decide_eq_true z)
  obtain⟨e,hl⟩:=L.done hr0
  subst e
  walk_at "vs"
  refine Zf6 ?_
  rw[oI,figs,List.map_reverse]
theorem ZeG{Q:TV->Prop}{n b:Int}(hb:2<=b/\b<=5)(h0:0<=n)(h1:n.toNat<2 ^ 900)(q:Q (.av (oI (figs b n)))):Cl Zcw [] Q [.av (.d (.int n)),.av (.d (.int b))] :=
 ZaR (by walk_at "nrs") ⟨n,b,rfl,hb,h0,h1,rfl⟩ (Got.own (ZbB _)) q
def pad(L:Nat)(xs:List Int):List Int:=List.replicate (L-xs.length) 0++xs
theorem Zlf{b n:Int}(hb:2<=b/\b<=5)(h0:0<=n)(h1:n.toNat<2 ^ 900):(figs b n).length<=900:=by
 unfold figs;rw[List.length_reverse];exact ZiZ (n:=n) hb.1 hb.2 900 n h1
theorem Zj7(k:Nat):(List.replicate k [PyData.int 0]).flatten=(List.replicate k (0:Int)).map PyData.int:=by
 induction k with
 | zero=>rfl
 | succ k ih=>rw[List.replicate_succ,List.flatten_cons,ih,List.replicate_succ];rfl
def ZhU(ds:List PyData)(c:AV):Prop:=∃ (xs:List Int) (L:Nat),ds=[dI xs,.int L]/\L<=1000/\xs.length<=1000/\c=oI (pad L xs)
theorem Zj8(T:Txt K mg):Cal P w K mg base CX0 1 "filled" ["figures", "length"] [] (spV K ZhU NX):=by
 refine val T.x_filled ZjG (λds c ⟨ns,k,e,_⟩=>by rw[e];rfl) (λf cdv A outer s H E hr=>?_) [] (by simp)
 refine⟨_,(Zaf (Zap (ZaG (Zbi (K:=K) rfl) (ZaG Za4 (Zcb (Zaa Zae Zab)) (ZaG Zlu (pv 1) (Zaz (ZaC (K:=K) rfl) rfl T.n_len PySem.boot_len (Zaa (pv 0) Zab)))) (pv 0)))),?_⟩
 rintro ds c ⟨xs,L,rfl,hL,hx,rfl⟩
 show Sv K _ _ _ [some (.d (dI xs)),some (.d (.int L))] _
 walk_at "vs"
 refine Zho ?_
 walk_at "vs"
 refine⟨[.d (.int 0)],.cons rfl .nil,by decide,?_⟩
 walk_at "vs"
 refine Zf5 rfl ?_
 walk_at "vs"
 rw[List.length_map]
 have e:((L:Int)-(xs.length:Int)).toNat=L-xs.length:=by omega
 refine Zpy (ds:=[.int 0]) rfl ⟨by omega,by omega⟩ (by rw[e];show 1*_<=_;omega) ?_
 rw[e,Zj7,Zgo]
 walk_at "vs"
 refine Zpx (ds:=(List.replicate (L-xs.length) (0:Int)).map .int) (es:=xs.map .int) (by rw[TV.data,AV.data,Zaw]) rfl (Kp.flat (ZaB _)) (Kp.flat (ZaB _)) (by rw[List.length_map,List.length_map,List.length_replicate];omega) ?_
 refine Zf6 ?_
 rw[<- List.map_append,Zgo]
 rfl
def Zen(ds:List PyData)(c:AV):Prop:=∃ (n:Int) (m:Nat) (b:Int),ds=[.int n,.int m,.int b]/\(2<=b/\b<=5)/\0<=n/\n.toNat<2 ^ 900/\m<=1000/\c=.d (tI (pad m (figs b n)))
theorem Zgr(T:Txt K mg):∀ dvs∈[[],[V.int 2]],Cal P w K mg base CX0 3 "column_of" ["code", "many", "base"] dvs (spV K Zen NX):=by
 have c_figures_of:Cal P w K mg base CX0 2 "figures_of" ["place", "base"] [] (spV K Zcw NX):=ZfI T [] (by simp)
 have c_filled:Cal P w K mg base CX0 1 "filled" ["figures", "length"] [] (spV K ZhU NX):=Zj8 T
 refine val T.x_column_of Zgi (λds c ⟨n,m,b,e,_⟩=>by rw[e];rfl) (λf cdv A outer s H E hr=>?_)
 refine⟨_,(Zaf (Zap (ZaD (ZaQ (K:=K) rfl) rfl T.n_tuple PyProof.Rows.boot_tuple (Zaa (Zai (c_filled.mono (by decide)) hr rfl pass0 (Zaa (Zai (c_figures_of.mono (by decide)) hr rfl pass0 (Zaa (pv 0) (Zaa (pv 2) Zab))) (Zaa (pv 1) Zab))) Zab)))),?_⟩
 rintro ds c ⟨n,m,b,rfl,hb,h0,h1,hm,rfl⟩
 show Sv K _ _ _ [some (.d (.int n)),some (.d (.int m)),some (.d (.int b))] _
 walk_at "vs"
 refine ZeG hb h0 h1 ?_
 walk_at "vs"
 refine ZaR (by walk_at "nrs") ⟨figs b n,m,by simp only[List.map_cons,List.map_nil,TV.data];rw[Zbk];rfl,hm,Nat.le_trans (Zlf hb h0 h1) (by decide),rfl⟩ (Got.own (ZbB _)) ?_
 walk_at "vs"
 refine Zbt (ds:=(pad m (figs b n)).map .int) (by rw[TV.data,Zbk];rfl) (.inl rfl) ?_
 walk_at "vs"
 exact ZaZ rfl
theorem Zcx{α:Type}{M:List α->Prop}(xs:List α)(h0:M [])(h1:∀ ys d,M ys->M (ys++[d])):M xs:=by
 have:∀ ys:List α,M ys.reverse:=λys=>by
  induction ys with
  | nil=>exact h0
  | cons d ys ih=>rw[List.reverse_cons];exact h1 _ _ ih
 have:=this xs.reverse
 rwa [List.reverse_reverse] at this
theorem Zj9{b q d:Int}(hb:2<=b/\b<=5)(hq:0<=q)(hd:0<=d/\d<b)(h:0<q*b+d):figs b (q*b+d)=figs b q++[d]:=by
 have e1:(q*b+d)%b=d:=by rw[Int.add_comm,Int.add_mul_emod_self_right];exact Int.emod_eq_of_lt hd.1 hd.2
 have e2:(q*b+d) / b=q:=by
  rw[Int.add_comm,Int.add_mul_ediv_right _ _ (by omega),Int.ediv_eq_zero_of_lt hd.1 hd.2];omega
 unfold figs
 rw[ZgI hb.1 hb.2 h,e1,e2,List.reverse_cons]
theorem Zm0{b:Int}(hb:2<=b/\b<=5)(xs:List Int):(∀ x∈xs,0<=x/\x<b)->0<=num b xs/\num b xs+1<=5 ^ xs.length:=by
 refine Zcx (M:=λxs=>(∀ x∈xs,0<=x/\x<b)->0<=num b xs/\num b xs+1<=5 ^ xs.length) xs (λ_=>⟨Int.le_refl _,Int.le_refl _⟩) λys d ih h=>?_
 obtain⟨i1,i2⟩:=ih λx hx=>h x (List.mem_append_left _ hx)
 have hd:=h d (List.mem_append_right _ (.head _))
 rw[Ze9,List.length_append,List.length_singleton,Int.pow_succ]
 have m1:0<=num b ys*b:=Int.mul_nonneg i1 (by omega)
 have m2:(num b ys+1)*b<=(num b ys+1)*5:=Int.mul_le_mul_of_nonneg_left hb.2 (by omega)
 have m3:(num b ys+1)*b=num b ys*b+b:=by rw[Int.add_mul,Int.one_mul]
 omega
theorem Zg0{b:Int}(hb:2<=b/\b<=5)(xs:List Int):(∀ x∈xs,0<=x/\x<b)->pad xs.length (figs b (num b xs))=xs:=by
 refine Zcx (M:=λxs=>(∀ x∈xs,0<=x/\x<b)->pad xs.length (figs b (num b xs))=xs) xs (λ_=>?_) λys d ih h=>?_
 ·rw[show num b []=0 from rfl];unfold figs;rw[ZcB (by omega)];rfl
 ·have hy:∀ x∈ys,0<=x/\x<b:=λx hx=>h x (List.mem_append_left _ hx)
  have e:=ih hy
  have hd:=h d (List.mem_append_right _ (.head _))
  have hq:=(Zm0 hb ys hy).1
  rw[Ze9,List.length_append,List.length_singleton]
  by_cases hp:0<num b ys*b+d
  ·rw[Zj9 hb hq hd hp]
   unfold pad at e ⊢
   rw[List.length_append,List.length_singleton,Nat.add_sub_add_right,<- List.append_assoc,e]
  ·have m1:0<=num b ys*b:=Int.mul_nonneg hq (by omega)
   have hd0:d=0:=by omega
   have hq0:num b ys=0:=by
    rcases Int.lt_or_eq_of_le hq with z|z
    ·have:0<num b ys*b:=Int.mul_pos z (by omega)
     omega
    ·exact z.symm
   subst hd0
   rw[hq0] at e ⊢
   have z0:figs b (0*b+0)=[]:=by unfold figs;rw[ZcB (by omega)];rfl
   have z1:figs b 0=[]:=by unfold figs;rw[ZcB (by omega)];rfl
   rw[z1] at e
   rw[z0]
   unfold pad at e ⊢
   rw[List.append_nil,List.length_nil,Nat.sub_zero] at e ⊢
   rw[List.replicate_succ',e]
theorem Zlg{ns:List Int}{k:Nat}(h:k<ns.length):atI (ns.map PyData.int) (k:Int)=some (.int (ns.getD k 0)):=ZiR (by rw[List.getElem?_map,List.getElem?_eq_getElem h,List.getD_eq_getElem?_getD,List.getElem?_eq_getElem h];rfl)
def Zb9(ds:List PyData)(c:AV):Prop:=∃ (xs:List Int) (b:Int),(ds=[dI xs,.int b]\/ds=[tI xs,.int b])/\(2<=b/\b<=5)/\c=.d (.int (num b xs))
theorem Zgs(T:Txt K mg):∀ dvs∈[[],[V.int 2]],Cal P w K mg base CX0 2 "number_of" ["figures", "base"] dvs (spV K Zb9 NX):=by
 have c_want_base:Cal P w K mg base CX0 1 "want_base" ["base"] [] (spV K Zb8 NX):=ZdJ T
 refine val T.x_number_of ZbQ (λds c ⟨n,b,e,_⟩=>by rcases e with e|e<;>rw[e]<;>rfl) (λf cdv A outer s H E hr=>?_)
 refine⟨_,(Zac (Za9 (Zai (c_want_base.mono (by decide)) hr rfl pass0 (Zaa (pv 1) Zab)))
   (Zac (Zal (i:=2) ZbQ.nd rfl (Or.inl rfl) Zae)
   (Zac (ZcI PassesOwn.never rfl (ZbD (K:=K) rfl (pv 0)) (Zav (i:=3) ZbQ.nd rfl (Or.inl rfl))
    (Zaf (Zal (i:=2) ZbQ.nd rfl (Or.inl rfl) (ZaG (Zbi (K:=K) rfl) (ZaG Za4 (pv 2) (pv 1)) (pv 3)))))
   (Zaf (Zap (pv 2)))))),?_⟩
 rintro ds c ⟨xs,b,e,hb,rfl⟩
 obtain⟨x,rfl,hx⟩:∃ x,ds=[x,.int b]/\(x=.list (xs.map .int)\/x=.tuple (xs.map .int)):=by
  rcases e with e|e
  ·exact⟨_,e,.inl rfl⟩
  ·exact⟨_,e,.inr rfl⟩
 show Sv K _ _ _ [some (.d x),some (.d (.int b)),none,none] _
 walk_at "vs"
 refine Zdt hb ?_
 walk_at "vs"
 refine Zmm (α:=Int) ?_
 walk_at "vs"
 refine⟨xs,PyData.int,hx,⟨_,rfl⟩,λi ρ=>∃ o,ρ=[some (.d x),some (.d (.int b)),some (.d (.int (num b (xs.take i)))),o],⟨none,rfl⟩,?_,?_⟩
 ·rintro i ρ hi ⟨o,rfl⟩
  walk_at "vs"
  refine⟨some (.d (.int xs[i])),?_⟩
  rw[List.take_add_one,List.getElem?_eq_getElem hi]
  show _=[_,_,some (AV.d (.int (num b (xs.take i++[xs[i]])))),_]
  rw[Ze9]
 ·rintro ρ ⟨o,rfl⟩
  rw[List.take_length]
  walk_at "vs"
  exact ZaZ rfl
abbrev relD(b:Int)(ns:List OkS)(N:Mach):PyData:=.tuple [.int b,.tuple (ns.map dS),dM N]
theorem ZfJ(b x:Int):num b [x]=x:=by show 0*b+x=x;omega
theorem Ziw(T:Txt K mg):∀ dvs∈[[],[V.int 2]],Cal P w K mg base CX0 3 "code_of" ["column", "base"] dvs (spV K Zb9 NX):=by
 have c_number_of:Cal P w K mg base CX0 2 "number_of" ["figures", "base"] [] (spV K Zb9 NX):=Zgs T [] (by simp)
 refine val T.x_code_of Ziu (λds c ⟨n,b,e,_⟩=>by rcases e with e|e<;>rw[e]<;>rfl) (λf cdv A outer s H E hr=>?_)
 refine⟨_,(Zaf (Zap (Zai (c_number_of.mono (by decide)) hr rfl pass0 (Zaa (pv 0) (Zaa (pv 1) Zab))))),?_⟩
 rintro ds c ⟨xs,b,e,hb,rfl⟩
 obtain⟨x,rfl,hx⟩:∃ x,ds=[x,.int b]/\(x=dI xs\/x=tI xs):=by
  rcases e with e|e
  ·exact⟨_,e,.inl rfl⟩
  ·exact⟨_,e,.inr rfl⟩
 show Sv K _ _ _ [some (.d x),some (.d (.int b))] _
 walk_at "vs"
 refine ZaR (by walk_at "nrs") ⟨xs,b,by rcases hx with e|e<;>subst e;exact .inl rfl;exact .inr rfl,hb,rfl⟩ (Got.own rfl) ?_
 exact ZaZ rfl
def Zgt(ds:List PyData)(c:AV):Prop:=∃ (b:Int) (ns:List OkS),ds=[.int b,.tuple (ns.map dS)]/\(2<=b/\b<=5)/\ns.length<=2/\c=.d (.int (b ^ ns.length))
theorem Zbm(T:Txt K mg):Cal P w K mg base CX0 1 "letters_for" ["base", "names"] [] (spV K Zgt NX):=by
 refine val T.x_letters_for Zbl (λds c ⟨_,_,e,_⟩=>by rw[e];rfl) (λf cdv A outer s H E hr=>?_) [] (by simp)
 refine⟨_,(Zac (Zal (i:=2) Zbl.nd rfl (Or.inl rfl) Zae)
   (Zac (ZcI PassesOwn.never rfl (ZbD (K:=K) rfl (pv 1)) (Zav (i:=3) Zbl.nd rfl (Or.inl rfl))
    (Zaf (Zal (i:=2) Zbl.nd rfl (Or.inl rfl) (ZaG Za4 (pv 2) (pv 0)))))
   (Zaf (Zap (pv 2))))),?_⟩
 rintro ds c ⟨b,ns,rfl,hb,hn,rfl⟩
 show Sv K _ _ _ [some (.d (.int b)),some (.d (.tuple (ns.map dS))),none,none] _
 walk_at "vs"
 refine Zmm (α:=OkS) ?_
 walk_at "vs"
 refine⟨ns,dS,.inr rfl,⟨_,rfl⟩,λi ρ=>∃ o,ρ=[some (.d (.int b)),some (.d (.tuple (ns.map dS))),some (.d (.int (b ^ i))),o],⟨none,by rw[Int.pow_zero]⟩,?_,?_⟩
 ·rintro i ρ hi ⟨o,rfl⟩
  walk_at "vs"
  exact⟨_,by rw[Int.pow_succ]⟩
 ·rintro ρ ⟨o,rfl⟩
  walk_at "vs"
  exact ZaZ rfl
theorem col2{b k:Int}(hb:2<=b/\b<=5)(hk:0<=k/\k<b*b):pad 2 (figs b k)=[k / b,k%b]:=by
 have h1:0<=k / b/\k / b<b:=⟨Int.ediv_nonneg hk.1 (by omega),Int.ediv_lt_of_lt_mul (by omega) hk.2⟩
 have h2:0<=k%b/\k%b<b:=⟨Int.emod_nonneg _ (by omega),Int.emod_lt_of_pos _ (by omega)⟩
 have:=Zg0 hb [k / b,k%b] (λx hx=>by
  rcases List.mem_cons.mp hx with e|e
  ·rw[e];exact h1
  ·rw[List.mem_singleton.mp e];exact h2)
 have e:num b [k / b,k%b]=k:=by
  show (0*b+k / b)*b+k%b=k
  rw[Int.zero_mul,Int.zero_add,Int.mul_comm]
  exact Int.mul_ediv_add_emod k b
 rw[e] at this
 exact this
def idxD{α:Type}[DecidableEq α](xs:List α)(c:α):Nat:=xs.idxOf c
theorem Zm1{α:Type}[DecidableEq α]{xs:List α}{c:α}(h:c∈xs):idxD xs c<xs.length:=List.idxOf_lt_length_of_mem h
theorem ZlJ{α:Type}[DecidableEq α](a b:α):idxD [a,b] a=0:=by simp[idxD]
theorem ZlK{α:Type}[DecidableEq α]{a b:α}(h:a≠b):idxD [a,b] b=1:=by
 unfold idxD
 rw[List.idxOf_cons,beq_false_of_ne h]
 simp
theorem Zow{α:Type}[DecidableEq α](a:α):idxD [a] a=0:=by simp[idxD]
theorem Zlh{b:Int}(hb:2<=b/\b<=5):4<=b*b/\b*b<=25:=by
 obtain e|e|e|e:b=2\/b=3\/b=4\/b=5:=by omega
 all_goals subst e;decide
theorem pw0(b:Int):b ^ 0=1:=Int.pow_zero b
theorem pw1(b:Int):b ^ 1=b:=by rw[Int.pow_succ,Int.pow_zero,Int.one_mul]
theorem pw2(b:Int):b ^ 2=b*b:=by rw[Int.pow_succ,pw1]
theorem len012{α:Type}{ns:List α}(h:ns.length<=2):ns=[]\/(∃ a,ns=[a])\/∃ a b,ns=[a,b]:=by
 cases ns with
 | nil=>exact .inl rfl
 | cons a t =>
  cases t with
  | nil=>exact .inr (.inl ⟨a,rfl⟩)
  | cons b t =>
   cases t with
   | nil=>exact .inr (.inr ⟨a,b,rfl⟩)
   | cons c t=>simp at h
theorem ZcH{α:Type}{b:Int}{ns:List α}(hb:2<=b/\b<=5)(h:ns.length<=2):1<=b ^ ns.length/\b ^ ns.length<=25:=by
 rcases len012 h with rfl|⟨a,rfl⟩|⟨a,c,rfl⟩
 ·show 1<=b ^ 0/\b ^ 0<=25;rw[pw0];omega
 ·show 1<=b ^ 1/\b ^ 1<=25;rw[pw1];omega
 ·show 1<=b ^ 2/\b ^ 2<=25;rw[pw2];have:=Zlh hb;omega
def colD(b:Int)(m:Nat)(k:Int):List Int:=pad m (figs b k)
theorem Zka{α:Type}{b k:Int}{ns:List α}(hb:2<=b/\b<=5)(h:ns.length<=2)(hk:0<=k/\k<b ^ ns.length):(colD b ns.length k).length=ns.length/\(∀ x∈colD b ns.length k,0<=x/\x<b)/\num b (colD b ns.length k)=k:=by
 rcases len012 h with rfl|⟨a,rfl⟩|⟨a,c,rfl⟩
 ·have hk:0<=k/\k<b ^ 0:=hk
  rw[pw0] at hk
  have:k=0:=by omega
  subst this
  have e:=Zg0 hb [] (λx hx=>by cases hx)
  have e:colD b 0 0=[]:=e
  show (colD b 0 0).length=0/\_
  rw[show (([]:List α).length)=0 from rfl,e]
  exact⟨rfl,(λx hx=>by cases hx),rfl⟩
 ·have hk:0<=k/\k<b ^ 1:=hk
  rw[pw1] at hk
  have e:=Zg0 hb [k] (λx hx=>by rw[List.mem_singleton.mp hx];exact hk)
  rw[ZfJ] at e
  have e:colD b 1 k=[k]:=e
  show (colD b 1 k).length=1/\(∀ x∈colD b 1 k,_)/\num b (colD b 1 k)=k
  rw[e]
  exact⟨rfl,λx hx=>by rw[List.mem_singleton.mp hx];exact hk,ZfJ b k⟩
 ·have hk:0<=k/\k<b ^ 2:=hk
  rw[pw2] at hk
  have e:colD b 2 k=[k / b,k%b]:=col2 hb hk
  show (colD b 2 k).length=2/\(∀ x∈colD b 2 k,_)/\num b (colD b 2 k)=k
  rw[e]
  refine⟨rfl,λx hx=>?_,?_⟩
  ·rcases List.mem_cons.mp hx with e|e
   ·rw[e];exact⟨Int.ediv_nonneg hk.1 (by omega),Int.ediv_lt_of_lt_mul (by omega) hk.2⟩
   ·rw[List.mem_singleton.mp e];exact⟨Int.emod_nonneg _ (by omega),Int.emod_lt_of_pos _ (by omega)⟩
  ·show (0*b+k / b)*b+k%b=k
   rw[Int.zero_mul,Int.zero_add,Int.mul_comm]
   exact Int.mul_ediv_add_emod k b
def phi(b:Int)(ns part:List OkS)(k:Int):Int:=num b (part.map λc=>(colD b ns.length k).getD (idxD ns c) 0)
structure CwOk(b:Int)(ns part:List OkS):Prop where
 hb:2<=b/\b<=5
 l:ns.length<=2
 pl:part.length<=2
 m:∀ c∈part,c∈ns
def wtn(b:Int)(ns part:List OkS):List Int:=(List.range (b ^ ns.length).toNat).map λ(k:Nat)=>phi b ns part k
def S_cw(ds:List PyData)(r:AV):Prop:=∃ (b:Int) (ns part:List OkS),ds=[.int b,.tuple (ns.map dS),.tuple (part.map dS)]/\CwOk b ns part/\r=oI (wtn b ns part)
theorem Zcy(T:Txt K mg):Cal P w K mg base CX0 4 "codes_within" ["base", "names", "part"] [] (spV K S_cw NX):=by
 have c_letters_for:Cal P w K mg base CX0 1 "letters_for" ["base", "names"] [] (spV K Zgt NX):=Zbm T
 have c_column_of:Cal P w K mg base CX0 3 "column_of" ["code", "many", "base"] [] (spV K Zen NX):=Zgr T [] (by simp)
 have c_code_of:Cal P w K mg base CX0 3 "code_of" ["column", "base"] [] (spV K Zb9 NX):=Ziw T [] (by simp)
 refine val T.x_codes_within ZaS (λds c ⟨_,_,_,e,_⟩=>by rw[e];rfl) (λf cdv A outer s H E hr=>?_) [] (by simp)
 refine⟨_,(Zac (ZiW (i:=3) ZaS.nd rfl rfl (N:=["name", "names"]) (cap:=[none,some 1]) rfl rfl rfl (by kernel_rfl) (ZbD (K:=K) rfl (pv 2)) (λ_ _ _ _=>(Zav (i:=0) (show (["name", "names"]:List Str).Nodup from by decide +kernel) rfl (Or.inl rfl))) (λ_ _ _ _=>ZaV) (λ_ _ _ _=>(ZmL PySem.F.slot_tuple_index PySem.F.type_tuple_index (ZjC (K:=K) rfl hr.units) (pv 1) (Zaa (pv 0) Zab))))
   (Zac (Zal (i:=4) ZaS.nd rfl (Or.inl rfl) (Zcb Zab))
   (Zac (ZcI PassesOwn.never rfl (Zcf rfl T.n_range (Zaa (Zai (c_letters_for.mono (by decide)) hr rfl pass0 (Zaa (pv 0) (Zaa (pv 1) Zab))) Zab)) (Zav (i:=5) ZaS.nd rfl (Or.inl rfl))
    (Zac (Zal (i:=6) ZaS.nd rfl (Or.inr rfl) (Zai (c_column_of.mono (by decide)) hr rfl pass0 (Zaa (pv 5) (Zaa (Zaz (ZaC (K:=K) rfl) rfl T.n_len PySem.boot_len (Zaa (pv 1) Zab)) (Zaa (pv 0) Zab)))))
    (Zaf (Za9 (ZcK (K:=K) rfl PySem.F.plainAttrs_list PySem.F.slot_list_append PySem.F.type_list_append Za0 (pv 4) (Zaa (Zai (c_code_of.mono (by decide)) hr rfl pass0 (Zaa (Zbs (N:=["spot", "column"]) (cap:=[none,some 6]) rfl rfl rfl (by kernel_rfl) (ZbD (K:=K) rfl (pv 3)) (λ_ _ _ _=>(Zav (i:=0) (show (["spot", "column"]:List Str).Nodup from by decide +kernel) rfl (Or.inl rfl))) (λ_ _ _ _=>ZaV) (λ_ _ _ _=>(Zao (Zag (K:=K) rfl hr.units) (pv 1) (pv 0) (λ_ _=>rfl)))) (Zaa (pv 0) Zab))) Zab))))))
   (Zaf (Zap (pv 4)))))),?_⟩
 rintro ds r ⟨b,ns,part,rfl,hC,rfl⟩
 show Sv K _ _ _ [some (.d (.int b)),some (.d (.tuple (ns.map dS))),some (.d (.tuple (part.map dS))),none,none,none,none] _
 have hl:=hC.l
 have hpl:=hC.pl
 have hb:=hC.hb
 have hs:=ZcH hb hl
 walk_at "vm"
 refine ZcM (α:=OkS) ?_
 walk_at "vm"
 refine⟨part,dS,λx=>.d (.int (idxD ns x:Nat)),.inr rfl,NR.av,by omega,λi hi=>?_,_,Got.own (ZaH λ_=>rfl),?_⟩
 ·have hm:=hC.m _ (List.getElem_mem hi)
  show Gv K _ _ [none,some (.d (.tuple (ns.map dS)))] _
  walk_at "vm"
  refine⟨wk_0,?_⟩
  refine ZjE Enc.str ?_
  walk_at "vm"
  refine⟨ns,rfl,NR.av,by omega,?_⟩
  walk_at "vm"
  exact⟨part[i],rfl,NR.av,hm,rfl⟩
 refine v_sD (x:=dI (part.map λc=>(idxD ns c:Int))) (by rw[AV.data,Zaw,dI,List.map_map];rfl) ?_
 walk_at "vm"
 refine ZkL ?_
 walk_at "vm"
 refine ZaR (by walk_at "nrs") ⟨b,ns,rfl,hb,by omega,rfl⟩ (Got.own rfl) ?_
 walk_at "vm"
 refine⟨b ^ ns.length,rfl,⟨by omega,by omega⟩,λi ρ=>∃ (o1 o2:Option AV),ρ=[some (.d (.int b)),some (.d (.tuple (ns.map dS))),some (.d (.tuple (part.map dS))),some (.d (dI (part.map λc=>(idxD ns c:Int)))),some (oI ((List.range i).map λ(k:Nat)=>phi b ns part k)),o1,o2],⟨none,none,rfl⟩,?_,?_⟩
 ·rintro i ρ hi ⟨o1,o2,rfl⟩
  have hk:0<=(i:Int)/\(i:Int)<b ^ ns.length:=by omega
  have hcl:=(Zka hb hl hk).1
  walk_at "vm"
  refine ZkJ rfl ?_
  rw[List.length_map]
  walk_at "vm"
  refine ZaR (by walk_at "nrs") ⟨(i:Int),ns.length,b,rfl,hb,hk.1,Nat.lt_of_lt_of_le (show (i:Int).toNat<2 ^ 6 by omega) (Nat.pow_le_pow_right (by decide) (by decide)),by omega,rfl⟩ (Got.own (Zc6 _)) ?_
  rw[show pad ns.length (figs b (i:Int))=colD b ns.length i from rfl]
  walk_at "vm"
  refine ZcM (α:=OkS) ?_
  walk_at "vm"
  refine⟨part,λc=>PyData.int (idxD ns c:Int),λc=>.d (.int ((colD b ns.length i).getD (idxD ns c) 0)),.inl (by rw[TV.data,dI,List.map_map];rfl),NR.av,by omega,λj hj=>?_,_,Got.own (ZaH λ_=>rfl),?_⟩
  ·have hm:=Zm1 (hC.m _ (List.getElem_mem hj))
   show Gv K _ _ [none,some (.d (tI (colD b ns.length i)))] _
   walk_at "vm"
   refine⟨wk_0,?_⟩
   walk_at "vs"
   exact ix_T rfl (Zlg (by rw[hcl];exact hm)) Item.d rfl
  walk_at "vm"
  refine ZaR (by walk_at "nrs") ⟨part.map λc=>(colD b ns.length i).getD (idxD ns c) 0,b,.inl ?_,hb,rfl⟩ (Got.own rfl) ?_
  ·simp only[List.map_cons,List.map_nil,List.append_nil]
   rw[TV.data,AV.data,Zaw,dI,List.map_map]
   rfl
  refine v_ap ?hz ?_
  case hz=>rw[List.length_map,List.length_map,List.length_range];omega
  refine⟨some (.d (.int (i:Int))),some (.d (tI (colD b ns.length i))),?_⟩
  rw[List.range_succ,List.map_append,oI,List.map_append]
  rfl
 ·rintro ρ ⟨o1,o2,rfl⟩
  walk_at "vm"
  exact Zf6 rfl
theorem Zkb{Q:TV->Prop}{b:Int}{ns part:List OkS}(h:CwOk b ns part)(q:Q (.av (oI (wtn b ns part)))):Cl S_cw [] Q [.av (.d (.int b)),.av (.d (.tuple (ns.map dS))),.av (.d (.tuple (part.map dS)))] :=
 ZaR (by walk_at "nrs") ⟨b,ns,part,rfl,h,rfl⟩ (Got.own (ZbB _)) q
def cbf(φ:Int->Int)(n:Nat)(f:Nat):List Int:=((List.range n).filter λ(k:Nat)=>decide (φ (k:Int)=(f:Int))).map λ(k:Nat)=>(k:Int)
def cbr(φ:Int->Int)(L':Nat)(n:Nat):List (List Int):=(List.range L').map (cbf φ n)
theorem ZhV(φ:Int->Int)(n f:Nat):cbf φ (n+1) f=if φ (n:Int)=f then cbf φ n f++[(n:Int)] else cbf φ n f:=by
 unfold cbf
 rw[List.range_succ,List.filter_append,List.map_append]
 by_cases h:φ (n:Int)=f
 ·rw[if_pos h,List.filter_cons_of_pos (by simpa using h)];rfl
 ·rw[if_neg h,List.filter_cons_of_neg (by simpa using h)];simp
theorem Zg1(φ:Int->Int)(n f:Nat):(cbf φ n f).length<=n:=by
 unfold cbf
 rw[List.length_map]
 refine Nat.le_trans (List.length_filter_le _ _) ?_
 rw[List.length_range]
 exact Nat.le_refl _
theorem Zcz{φ:Int->Int}{n f:Nat}{k:Int}:k∈cbf φ n f↔(0<=k/\k<n)/\φ k=f:=by
 unfold cbf
 rw[List.mem_map]
 constructor
 ·rintro⟨j,hj,rfl⟩
  obtain⟨h1,h2⟩:=List.mem_filter.mp hj
  have:=List.mem_range.mp h1
  exact⟨⟨by omega,by omega⟩,of_decide_eq_true h2⟩
 ·rintro⟨h1,h2⟩
  refine⟨k.toNat,List.mem_filter.mpr ⟨List.mem_range.mpr (by omega),decide_eq_true ?_⟩,by omega⟩
  rw[Int.toNat_of_nonneg h1.1]
  exact h2
def Zox(ds:List PyData)(r:AV):Prop:=∃ (b:Int) (ns part:List OkS),ds=[.int b,.tuple (ns.map dS),.tuple (part.map dS)]/\CwOk b ns part/\(∀ k,0<=k/\k<b ^ ns.length->0<=phi b ns part k/\phi b ns part k<b ^ part.length)/\r=oL (cbr (phi b ns part) (b ^ part.length).toNat (b ^ ns.length).toNat)
theorem ZdP(T:Txt K mg):Cal P w K mg base CX0 5 "codes_by_rest" ["base", "names", "rest"] [] (spV K Zox NX):=by
 have c_letters_for:Cal P w K mg base CX0 1 "letters_for" ["base", "names"] [] (spV K Zgt NX):=Zbm T
 have c_codes_within:Cal P w K mg base CX0 4 "codes_within" ["base", "names", "part"] [] (spV K S_cw NX):=Zcy T
 refine val T.x_codes_by_rest Za6 (λds c ⟨_,_,_,e,_⟩=>by rw[e];rfl) (λf cdv A outer s H E hr=>?_) [] (by simp)
 refine⟨_,(Zac (ZiW (i:=3) Za6.nd rfl rfl (N:=["code"]) (cap:=[none]) rfl rfl rfl (by kernel_rfl) (Zcf rfl T.n_range (Zaa (Zai (c_letters_for.mono (by decide)) hr rfl pass0 (Zaa (pv 0) (Zaa (pv 2) Zab))) Zab)) (λ_ _ _ _=>(Zav (i:=0) (show (["code"]:List Str).Nodup from by decide +kernel) rfl (Or.inl rfl))) (λ_ _ _ _=>ZaV) (λ_ _ _ _=>(Zcb Zab)))
   (Zac (ZcI PassesOwn.never rfl (Zhm (K:=K) rfl rfl T.n_enumerate (Zaa (Zai (c_codes_within.mono (by decide)) hr rfl pass0 (Zaa (pv 0) (Zaa (pv 1) (Zaa (pv 2) Zab)))) Zab)) (Zfa (K:=K) (n:=2) rfl rfl (ZbK (Zav (i:=4) Za6.nd rfl (Or.inl rfl)) (ZbK (Zav (i:=5) Za6.nd rfl (Or.inl rfl)) Ze7)))
    (Zaf (Za9 (ZcK (K:=K) rfl PySem.F.plainAttrs_list PySem.F.slot_list_append PySem.F.type_list_append Za0 (Zao (Zag (K:=K) rfl hr.units) (pv 3) (pv 5) (λ_ _=>rfl)) (Zaa (pv 4) Zab)))))
   (Zaf (Zap (pv 3))))),?_⟩
 rintro ds r ⟨b,ns,part,rfl,hC,hin,rfl⟩
 show Sv K _ _ _ [some (.d (.int b)),some (.d (.tuple (ns.map dS))),some (.d (.tuple (part.map dS))),none,none,none] _
 have hs:=ZcH hC.hb hC.l
 have hs':=ZcH hC.hb hC.pl
 generalize hφ:phi b ns part=φ at hin
 walk_at "vm"
 refine Zn5 ?_
 walk_at "vm"
 refine ZaR (by walk_at "nrs") ⟨b,part,rfl,hC.hb,hC.pl,rfl⟩ (Got.own rfl) ?_
 walk_at "vm"
 refine⟨b ^ part.length,λ_=>oI [],rfl,⟨by omega,by omega⟩,λi hi=>?_,_,Got.own (ZaH λ_=>rfl),?_⟩
 ·show Gv K _ _ [none] _
  walk_at "vm"
  refine⟨wk_0,?_⟩
  walk_at "vm"
  rfl
 walk_at "vi"
 have e0:(AV.own ((List.range (b ^ part.length).toNat).map λ_=>oI []))=oL (cbr φ (b ^ part.length).toNat 0):=by
  unfold cbr oL
  rw[List.map_map]
  rfl
 rw[e0]
 refine Zoc (α:=Int) ?_
 walk_at "vi"
 refine Zkb hC ?_
 walk_at "vi"
 have hwl:(wtn b ns part).length=(b ^ ns.length).toNat:=by unfold wtn;rw[List.length_map,List.length_range]
 refine⟨_,wtn b ns part,PyData.int,rfl,Zbk _,⟨_,rfl⟩,λi ρ=>∃ (o1 o2:Option AV),ρ=[some (.d (.int b)),some (.d (.tuple (ns.map dS))),some (.d (.tuple (part.map dS))),some (oL (cbr φ (b ^ part.length).toNat i)),o1,o2],⟨none,none,rfl⟩,?_,?_⟩
 ·rintro i ρ hi ⟨o1,o2,rfl⟩
  have hk:0<=(i:Int)/\(i:Int)<b ^ ns.length:=by omega
  have hw:=hin _ hk
  have ew:(wtn b ns part)[i]=φ i:=by simp only[wtn,List.getElem_map,List.getElem_range,hφ]
  rw[ew]
  generalize hv:φ i=v at hw
  refine Zfg ?_
  walk_at "v"
  walk_at "v"
  have hbl:(cbr φ (b ^ part.length).toNat i).length=(b ^ part.length).toNat:=by unfold cbr;rw[List.length_map,List.length_range]
  generalize hL:(b ^ part.length).toNat=L' at hbl
  refine ZmN (n:=3) (i:=5) (j:=4) (k:=v) (e:=(i:Int)) (m:=v.toNat) (xs:=(cbr φ L' i).map oI) (ys:=(cbf φ i v.toNat).map λk=>.d (.int k)) (by rfl) (by rfl) (by rfl) ?_ ?_ ?_ ?_
  ·rw[List.length_map,hbl]
   unfold ixN
   rw[if_pos hw.1,if_pos (by omega)]
  ·rw[List.getElem?_map]
   unfold cbr
   rw[List.getElem?_map,List.getElem?_range (by omega)]
   rfl
  ·rw[List.length_map];exact Nat.le_trans (Zg1 _ _ _) (by omega)
  refine⟨some (.d (.int (i:Int))),some (.d (.int v)),?_⟩
  show [_,_,_,some (AV.own (((cbr φ L' i).map oI).set v.toNat (AV.own ((cbf φ i v.toNat).map (λk=>.d (.int k))++[.d (.int (i:Int))])))),_,_]=_
  have es:((cbr φ L' i).map oI).set v.toNat (AV.own ((cbf φ i v.toNat).map (λk=>.d (.int k))++[.d (.int (i:Int))]))=(cbr φ L' (i+1)).map oI:=by
   refine List.ext_getElem? λj=>?_
   rw[List.getElem?_set,List.getElem?_map,List.getElem?_map,List.length_map,hbl]
   unfold cbr
   by_cases hj:j<L'
   ·rw[List.getElem?_map,List.getElem?_map,List.getElem?_range hj]
    by_cases e:v.toNat=j
    ·rw[if_pos e,if_pos (by omega)]
     show some _=some (oI (cbf φ (i+1) j))
     rw[ZhV,hv,if_pos (by omega),oI,List.map_append,e]
     rfl
    ·rw[if_neg e]
     show some _=some (oI (cbf φ (i+1) j))
     rw[ZhV,hv,if_neg (by omega)]
   ·rw[if_neg (by omega),List.getElem?_map,List.getElem?_map,List.getElem?_eq_none (by rw[List.length_range];omega)]
    rfl
  rw[es]
 ·rintro ρ ⟨o1,o2,rfl⟩
  rw[hwl]
  walk_at "vi"
  exact Zf6 rfl
def rm(rows:List (List Int))(ls:List Int):Int:=ls.foldl (stp rows) 0
theorem Zbv(rows:List (List Int))(ls:List Int)(l:Int):rm rows (ls++[l])=stp rows (rm rows ls) l:=by unfold rm;rw[List.foldl_append];rfl
theorem Parts.rm{a b:Int}{M:Mach}(h:Parts a b M):∀ (n:Nat) (ls:List Int),ls.length=n->(∀ l∈ls,0<=l/\l<((M.rows.getD 0 []).length:Int))->0<=rm M.rows ls/\rm M.rows ls<M.rows.length
 | 0,ls,e,_=>by
  have:ls=[]:=List.length_eq_zero_iff.mp e
  subst this
  have:=h.n0
  exact⟨Int.le_refl _,by show (0:Int)<_;omega⟩
 | n+1,ls,e,hl=>by
  obtain⟨ys,y,rfl⟩:∃ ys y,ls=ys++[y]:=⟨ls.dropLast,ls.getLast (by intro z;rw[z] at e;cases e),(List.dropLast_concat_getLast _).symm⟩
  rw[List.length_append] at e
  have ih:=h.rm n ys (by simpa using e) λl hl'=>hl l (List.mem_append_left _ hl')
  have hy:=hl y (List.mem_append_right _ (.head _))
  rw[Zbv]
  exact h.stp ih.1 ih.2 hy.1 hy.2
def Dgb(b:Int)(w:List Int):Prop:=∀ d∈w,0<=d/\d<b
theorem Dgb.snoc{b:Int}{v:List Int}{d:Int}(h:Dgb b (v++[d])):Dgb b v/\0<=d/\d<b:=⟨λe he=>h e (List.mem_append_left _ he),h d (List.mem_append_right _ (.head _))⟩
theorem Dgb.add{b:Int}{v:List Int}{d:Int}(h:Dgb b v)(hd:0<=d/\d<b):Dgb b (v++[d]):=λe he=>by
 rcases List.mem_append.mp he with he|he
 ·exact h e he
 ·rw[List.mem_singleton.mp he];exact hd
abbrev bs(N:Mach):Int:=((ltr N:Nat):Int)
def sgw(M:Mach)(w:List Int):Int:=M.signs.getD (rm M.rows w).toNat 0
theorem Zli{M:Mach}{R G:List Int}(hL:LotsM M R)(hB:Rb M R G)(w:List Int):Dgb (bs M) w->Bi M R G (rm M.rows w,rm (outM M R G).rows w):=by
 refine Zcx (M:=λw=>Dgb (bs M) w->Bi M R G (rm M.rows w,rm (outM M R G).rows w)) w (λ_=>hL.bi0 hB) λv d ih h=>?_
 obtain⟨hv,hd⟩:=h.snoc
 have:=hL.bin hB (ih hv) (l:=d.toNat) (show d.toNat<ltr M by have h1:=hd.1;have h2:d<((ltr M:Nat):Int):=hd.2;omega)
 rw[Zbv,Zbv]
 rw[Int.toNat_of_nonneg hd.1] at this
 exact this
theorem Zeo{M:Mach}{R G:List Int}(hL:LotsM M R)(hB:Rb M R G){w:List Int}(hw:Dgb (bs M) w):sgw (outM M R G) w=sgw M w:=(hL.bis hB (Zli hL hB w hw)).symm
def IsL(N:Mach):Prop:=∃ A R G,LotsM A R/\Rb A R G/\N=outM A R G
theorem Zlj{N N':Mach}(h:IsL N)(h':IsL N')(hl:ltr N=ltr N')(hs:∀ w,Dgb (bs N) w->sgw N w=sgw N' w):N=N':=by
 obtain⟨A,R,G,hL,hB,rfl⟩:=h
 obtain⟨A',R',G',hL',hB',rfl⟩:=h'
 rw[hB.lt,hB'.lt] at hl
 have eb:bs (outM A R G)=bs A:=by show ((ltr _:Nat):Int)=_;rw[hB.lt]
 have eb':bs A=bs A':=by show ((ltr _:Nat):Int)=_;rw[hl]
 refine Zj1 hL hB hL' hB' hl (λp=>∃ w,Dgb (bs A) w/\p=(rm A.rows w,rm A'.rows w)) ⟨[],(λ_ z=>by cases z),rfl⟩ ?_
 rintro p ⟨w,hw,rfl⟩
 refine⟨⟨hB.p.rm _ w rfl hw,hB'.p.rm _ w rfl (by rw[eb'] at hw;exact hw)⟩,?_,λl hl1=>⟨w++[(l:Int)],hw.add ⟨by omega,by show (l:Int)<(ltr A:Nat);omega⟩,by rw[Zbv,Zbv]⟩⟩
 have:=hs w (by rw[eb];exact hw)
 rw[Zeo hL hB hw,Zeo hL' hB' (by rw[<- eb'];exact hw)] at this
 exact this
structure MetT{α:Type}[DecidableEq α](θ:Th α)(F:List α):Prop where
 bf:Bfs θ.g θ.n [θ.start] 0 F
 nd:F.Nodup
 u:∀ x∈F,x∈θ.U
def runT{α:Type}(θ:Th α)(w:List Int):α:=w.foldl (λx d=>θ.g x d.toNat) θ.start
theorem Zep{α:Type}(θ:Th α)(w:List Int)(d:Int):runT θ (w++[d])=θ.g (runT θ w) d.toNat:=by unfold runT;rw[List.foldl_append];rfl
theorem ZhW{α:Type}[DecidableEq α]{θ:Th α}{sg:α->Int}{F:List α}(hX:MetT θ F)(w:List Int):Dgb (θ.n:Nat) w->runT θ w∈F/\rm (mMet θ sg F).rows w=(F.idxOf (runT θ w):Int):=by
 have all:∀ x∈F,∀ l,l<θ.n->θ.g x l∈F:=hX.bf.all λj hj z=>by omega
 obtain⟨r,e⟩:=hX.bf.pre
 refine Zcx (M:=λw=>Dgb (θ.n:Nat) w->runT θ w∈F/\rm (mMet θ sg F).rows w=(F.idxOf (runT θ w):Int)) w (λ_=>⟨by rw[e];exact .head _,?_⟩) λv d ih h=>?_
 ·show (0:Int)=(F.idxOf θ.start:Int)
  rw[e]
  simp
 ·obtain⟨hv,hd⟩:=h.snoc
  obtain⟨i1,i2⟩:=ih hv
  have hl:d.toNat<θ.n:=by omega
  rw[Zep,Zbv,i2]
  refine⟨all _ i1 _ hl,?_⟩
  have hi:=List.idxOf_lt_length_of_mem i1
  unfold stp
  rw[Int.toNat_natCast]
  have e1:(mMet θ sg F).rows.getD (F.idxOf (runT θ v)) []=rowN θ.g F (runT θ v) θ.n:=by
   show (F.map λa=>rowN θ.g F a θ.n).getD _ []=_
   rw[List.getD_eq_getElem?_getD,List.getElem?_map,List.getElem?_eq_getElem hi,List.getElem_idxOf]
   rfl
  rw[e1,List.getD_eq_getElem?_getD]
  unfold rowN
  rw[List.getElem?_map,List.getElem?_range hl]
  rfl
theorem Zlk{α:Type}[DecidableEq α]{θ:Th α}{sg:α->Int}{F:List α}(hX:MetT θ F){w:List Int}(hw:Dgb (θ.n:Nat) w):sgw (mMet θ sg F) w=sg (runT θ w):=by
 obtain⟨h1,h2⟩:=ZhW (sg:=sg) hX w hw
 have hi:=List.idxOf_lt_length_of_mem h1
 unfold sgw
 rw[h2,Int.toNat_natCast]
 show (F.map sg).getD _ 0=_
 rw[List.getD_eq_getElem?_getD,List.getElem?_map,List.getElem?_eq_getElem hi,List.getElem_idxOf]
 rfl
theorem Zm2{α:Type}[DecidableEq α]{θ:Th α}{sg:α->Int}{F:List α}(hX:MetT θ F):ltr (mMet θ sg F)=θ.n:=by
 obtain⟨r,e⟩:=hX.bf.pre
 have hF:0<F.length:=by rw[e];simp
 show ((F.map λa=>rowN θ.g F a θ.n).getD 0 []).length=_
 rw[List.getD_eq_getElem?_getD,List.getElem?_map,List.getElem?_eq_getElem hF]
 simp[rowN]
def mxI:List Int->Int
 | []=>0
 | a::l=>l.foldl max a
theorem ZhX:∀ (l:List Int) (a:Int),(a<=l.foldl max a/\∀ x∈l,x<=l.foldl max a)/\(l.foldl max a=a\/l.foldl max a∈l)
 | [],a=>⟨⟨Int.le_refl _,λ_ z=>nomatch z⟩,.inl rfl⟩
 | y::l,a=>by
  obtain⟨⟨h1,h2⟩,h3⟩:=ZhX l (max a y)
  rw[List.foldl_cons]
  refine⟨⟨by omega,λx hx=>?_⟩,?_⟩
  ·rcases List.mem_cons.mp hx with e|e
   ·subst e;omega
   ·exact h2 x e
  ·rcases h3 with h|h
   ·rw[h]
    rcases Int.le_total a y with z|z
    ·rw[Int.max_eq_right z];exact .inr (.head _)
    ·rw[Int.max_eq_left z];exact .inl rfl
   ·exact .inr (.tail _ h)
theorem Zeq{l:List Int}(h:l≠[]):mxI l∈l/\∀ x∈l,x<=mxI l:=by
 cases l with
 | nil=>exact absurd rfl h
 | cons a l =>
  obtain⟨⟨h1,h2⟩,h3⟩:=ZhX l a
  refine⟨?_,λx hx=>?_⟩
  ·show l.foldl max a∈_
   rcases h3 with e|e
   ·rw[e];exact .head _
   ·exact .tail _ e
  ·rcases List.mem_cons.mp hx with e|e
   ·rw[e];exact h1
   ·exact h2 x e
theorem ZlL{l:List Int}{m:Int}(h1:m∈l)(h2:∀ x∈l,x<=m):m=mxI l:=by
 have hne:l≠[]:=λz=>by rw[z] at h1;cases h1
 obtain⟨a,b⟩:=Zeq hne
 exact Int.le_antisymm (b _ h1) (h2 _ a)
def subs{α:Type}:List α->List (List α)
 | []=>[[]]
 | a::l=>subs l++(subs l).map (a::·)
theorem ZfK{α:Type}:∀ l:List α,(subs l).length=2 ^ l.length
 | []=>rfl
 | a::l=>by
  show (subs l++(subs l).map (a::·)).length=_
  rw[List.length_append,List.length_map,ZfK l,List.length_cons,Nat.pow_succ]
  omega
theorem ZhY{α:Type}{k l:List α}(h:List.Sublist k l):k∈subs l:=by
 induction h with
 | slnil=>exact .head _
 | cons a _ ih=>exact List.mem_append_left _ ih
 | cons_cons a _ ih=>exact List.mem_append_right _ (List.mem_map.mpr ⟨_,ih,rfl⟩)
theorem Zg2{α:Type}:∀ {l k:List α},k∈subs l->∀ x∈k,x∈l
 | [],k,h,x,hx=>by rw[List.mem_singleton.mp h] at hx;cases hx
 | a::l,k,h,x,hx=>by
  rcases List.mem_append.mp h with h|h
  ·exact .tail _ (Zg2 h x hx)
  ·obtain⟨k',hk,rfl⟩:=List.mem_map.mp h
   rcases List.mem_cons.mp hx with e|e
   ·rw[e];exact .head _
   ·exact .tail _ (Zg2 hk x e)
def ordI(n:Nat)(ns:List Int):List Int:=(rgI n).filter λy=>decide (y∈ns)
theorem Zg3{n:Nat}{ns:List Int}{y:Int}:y∈ordI n ns↔(0<=y/\y<n)/\y∈ns:=by
 unfold ordI
 rw[List.mem_filter,Zay]
 simp
theorem Zg4(n:Nat):(rgI n).Pairwise (· < ·):=by
 unfold rgI
 rw[List.pairwise_map]
 refine List.pairwise_lt_range.imp λh=>?_
 omega
theorem ZhZ{n:Nat}{ns:List Int}(h:∀ y∈ns,0<=y/\y<n):OnceI ns (ordI n ns):=by
 have hp:=(Zg4 n).sublist (List.filter_sublist (p:=λy=>decide (y∈ns)))
 refine⟨hp.imp λh=>Int.le_of_lt h,hp.imp λh e=>?_,λy=>Zg3.trans ⟨λz=>z.2,λz=>⟨h y z,z⟩⟩⟩
 omega
def allS(n:Nat):List (List Int):=(subs (rgI n)).filter λk=>decide (k≠[])
theorem Zm3{n:Nat}{ns:List Int}{y:Int}(h0:0<=y/\y<n)(h1:y∈ns):ordI n ns∈allS n :=
 List.mem_filter.mpr ⟨ZhY List.filter_sublist,decide_eq_true λz=>by have:=Zg3.mpr ⟨h0,h1⟩;rw[z] at this;cases this⟩
theorem Zgu{n:Nat}{k:List Int}(h:k∈allS n):k≠[]/\∀ x∈k,0<=x/\x<n :=
 ⟨of_decide_eq_true (List.mem_filter.mp h).2,λx hx=>Zay.mp (Zg2 (List.mem_filter.mp h).1 x hx)⟩
theorem Zkc{n:Nat}(hn:n<=6):(allS n).length<=64:=by
 refine Nat.le_trans (List.length_filter_le _ _) ?_
 rw[ZfK]
 have:(rgI n).length=n:=by simp[rgI]
 rw[this]
 exact Nat.pow_le_pow_right (by decide) hn (n:=2)
def InS(rows:List (List Int))(cd:Int->List Int)(w:List Int):Int->Prop:=w.foldl (λS d y=>∃ c∈cd d,∃ r,S r/\y=stp rows r c) (Rch rows (cd 0))
theorem InS.snoc{rows:List (List Int)}{cd:Int->List Int}(w:List Int)(d y:Int):InS rows cd (w++[d]) y↔∃ c∈cd d,∃ r,InS rows cd w r/\y=stp rows r c:=by
 unfold InS
 rw[List.foldl_append]
 rfl
theorem Ze3{D:Mach}{R F:List Int}(hL:LotsM D R)(hB:Rb D R F)(h0:stp D.rows 0 0=0):stp (outM D R F).rows 0 0=0:=by
 have l0:0<ltr D:=by have:=hB.p.l0;show 0<(D.rows.getD 0 []).length;omega
 have h1:=hL.bin hB (hL.bi0 hB) (l:=0) l0
 have h2:=hL.bi0 hB
 show stp (outM D R F).rows 0 ((0:Nat):Int)=0
 generalize hx:stp (outM D R F).rows 0 ((0:Nat):Int)=x at h1
 obtain⟨_,q2,q3⟩:=h1
 obtain⟨_,p2,p3⟩:=h2
 have e:tl R (stp D.rows (0,(0:Int)).1 ((0:Nat):Int)).toNat=tl R 0:=by
  show tl R (stp D.rows 0 0).toNat=_
  rw[h0];rfl
 have q2:0<=x/\x<F.length:=q2
 have p2:(0:Int)<=0/\(0:Int)<F.length:=p2
 have q3:tl R (stp D.rows (0,(0:Int)).1 ((0:Nat):Int)).toNat=F.getD x.toNat 0:=q3
 have p3:tl R 0=F.getD 0 0:=p3
 rw[e,p3,Zj0 (by omega),Zj0 (by omega)] at q3
 have:=congrArg F.idxOf q3
 rw[hB.nd.idxOf_getElem,hB.nd.idxOf_getElem] at this
 omega
structure LmOk{α:Type}(θ:Th α)(sg:α->Int):Prop where
 n0:1<=θ.n
 n1:θ.n<=64
 u:θ.U.length<=100
 s:∀ x∈θ.U,0<=sg x/\sg x<=9
theorem Zix{α:Type}[DecidableEq α]{θ:Th α}{sg:α->Int}{F:List α}(hX:MetT θ F)(h:LmOk θ sg):Parts 1 64 (mMet θ sg F):=by
 have all:∀ x∈F,∀ l,l<θ.n->θ.g x l∈F:=hX.bf.all λj hj z=>by omega
 obtain⟨r,e⟩:=hX.bf.pre
 have n0:=h.n0
 have n1:=h.n1
 have hF:0<F.length:=by rw[e];simp
 have hrow:∀ a,(rowN θ.g F a θ.n).length=θ.n:=λa=>by simp[rowN]
 have hr0:((mMet θ sg F).rows.getD 0 []).length=θ.n:=by
  show ((F.map λa=>rowN θ.g F a θ.n).getD 0 []).length=_
  rw[List.getD_eq_getElem?_getD,List.getElem?_map,List.getElem?_eq_getElem hF]
  exact hrow _
 have hle:=Nat.le_trans (Zbq hX.nd hX.u) h.u
 have hlen:(mMet θ sg F).rows.length=F.length:=List.length_map ..
 refine⟨by rw[hlen];exact hF,by rw[hlen];omega,by rw[hlen];exact List.length_map ..,λx hx=>?_,by rw[hr0];omega,by rw[hr0];omega,λx hx=>?_⟩
 ·obtain⟨a,ha,rfl⟩:=List.mem_map.mp (show x∈F.map λa=>rowN θ.g F a θ.n from hx)
  refine⟨by rw[hr0];exact hrow a,λy hy=>?_⟩
  obtain⟨l,hl,rfl⟩:=List.mem_map.mp hy
  rw[hlen]
  have:=List.idxOf_lt_length_of_mem (all a ha l (List.mem_range.mp hl))
  exact⟨by omega,by omega⟩
 ·obtain⟨a,ha,rfl⟩:=List.mem_map.mp (show x∈F.map sg from hx)
  exact h.s a (hX.u a ha)
def Zkd{α:Type}(P:Program)(w:World)(K:W.Frag)(mg:Str->Option Value)(base:Heap)(e:α->PyData)(θ:Th α×(α->Int))(cs:List AV):Prop:=ZhJ P w K mg base e θ cs/\LmOk θ.1 θ.2
def LmOut{α:Type}[DecidableEq α](θ:Th α)(sg:α->Int)(N:Mach):Prop:=∃ F R G,MetT θ F/\LotsM (mMet θ sg F) R/\Rb (mMet θ sg F) R G/\N=outM (mMet θ sg F) R G
def Zg5{α:Type}[DecidableEq α](θ:Th α×(α->Int))(_:List AV)(c:AV):Prop:=∃ N,LmOut θ.1 θ.2 N/\c=.d (dM N)
theorem ZdK(T:Txt K mg)(B:base.BuiltinsAt mg mainGlobals)(hTs:∀ p∈ts0,p∈Tabs.ts){α:Type}[DecidableEq α]{e:α->PyData}(Fe:KEnc e)(hj:∀ a b,e a=e b->a=b)(hf:∀ x,noLst (e x)=true) :
  Cal P w K mg base CX0 7 "least_met" ["start", "letters", "lead", "sign", "most"] [] (spF K (Zkd P w K mg base e) Zg5):=by
 have c_machine_met:Cal P w K mg base CX0 4 "machine_met" ["start", "letters", "lead", "sign", "most"] [] (spF K (ZhJ P w K mg base e) ZgU):=ZcO T Fe hj hf
 have c_least:Cal P w K mg base CX0 6 "least" ["machine"] [] (spR K Ze2 ZcD NP):=ZhT T B hTs
 refine valRF T.x_least_met Zgg (λθ cs ⟨⟨_,e⟩,_⟩=>by rw[e];rfl) (λθ f cdv A outer s H E hr=>?_) [] (by simp)
 refine⟨_,(Zaf (Zap (Zai (c_least.mono (by decide)) hr rfl pass0 (Zaa (Zai (c_machine_met.mono (by decide)) hr rfl pass0 (Zaa (pv 0) (Zaa (pv 1) (Zaa (pv 2) (Zaa (pv 3) (Zaa (pv 4) Zab)))))) Zab)))),?_⟩
 rintro cs ⟨⟨ok,rfl⟩,lm⟩
 obtain⟨θ,sg⟩:=θ
 show Sv K _ _ _ [some (.d (e θ.start)),some (.d (.int θ.n)),some (.obj (CloOk P w K mg base CX0 2 (spR K (PreL e θ) (PostL e θ) NP))),some (.obj (CloOk P w K mg base CX0 2 (spR K (PreS e θ) (PostS e sg) NP))),some (.d (.int θ.m))] _
 walk_at "vm"
 refine Zjn ?_
 walk_at "vm"
 refine⟨(θ,sg),[.d (e θ.start),.d (.int θ.n),.obj _,.obj _,.d (.int θ.m)],.cons (.d NR.av rfl) (.cons (.d NR.av rfl) (.cons .o (.cons .o (.cons (.d NR.av rfl) .nil)))),⟨ok,rfl⟩,λc ⟨F,h1,h2,h3,ec⟩=>?_,λ_ z=>z.elim⟩
 subst ec
 refine⟨_,Got.own (Zct _),?_⟩
 have hX:MetT θ F:=⟨h1,h2,h3⟩
 walk_at "vm"
 refine Zem (Zix hX lm) λR G hL hB=>?_
 exact⟨_,ZaZ rfl,_,⟨F,R,G,hX,hL,hB,rfl⟩,rfl⟩
noncomputable def frS(rows:List (List Int))(codes:List Int):List Int:=by
 classical exact (rgI rows.length).filter λy=>decide (Rch rows codes y)
theorem Zer{rows:List (List Int)}{codes:List Int}{y:Int}:y∈frS rows codes↔(0<=y/\y<rows.length)/\Rch rows codes y:=by
 classical
 unfold frS
 rw[List.mem_filter,Zay]
 simp
theorem ZfL(rows:List (List Int))(codes:List Int):(frS rows codes).Pairwise (· < ·):=by
 classical
 unfold frS
 exact (Zg4 rows.length).sublist List.filter_sublist
theorem Zoy(rows:List (List Int))(codes:List Int):List.Sublist (frS rows codes) (rgI rows.length):=by
 classical
 unfold frS
 exact List.filter_sublist
theorem ZpR{rows:List (List Int)}{codes ys:List Int}(h:RmOk rows codes ys)(a:∀ y,Rch rows codes y->y∈ys):ys=frS rows codes:=by
 refine OnceI.one (ns:=ys) ⟨h.s,h.d,λy=>.rfl⟩ ⟨(ZfL rows codes).imp λh=>Int.le_of_lt h,(ZfL rows codes).imp λh e=>?_,λy=>Zer.trans ⟨λz=>a y z.2,λz=>⟨h.r y z,h.h y z⟩⟩⟩
 omega
theorem Ziy{α:Type}:∀ {l k:List α},k∈subs l->k.length<=l.length:=by
 intro l
 induction l with
 | nil=>intro k hk;rw[List.mem_singleton.mp hk];exact Nat.le_refl _
 | cons a l ih =>
  intro k hk
  rcases List.mem_append.mp hk with hk|hk
  ·exact Nat.le_succ_of_le (ih hk)
  ·obtain⟨k',hk',rfl⟩:=List.mem_map.mp hk
   exact Nat.succ_le_succ (ih hk')
theorem Zes{n:Nat}{k:List Int}(h:k∈allS n):k.length<=n:=by
 have:=Ziy (List.mem_filter.mp h).1
 have e:(rgI n).length=n:=by simp[rgI]
 omega
structure Ph(φ:Int->Int)(L L':Nat):Prop where
 l0:1<=L
 l1:L<=64
 l0':1<=L'
 l1':L'<=64
 i:∀ k:Int,0<=k/\k<L->0<=φ k/\φ k<L'
 z:φ 0=0
 s:∀ f:Nat,f<L'->∃ k:Int,(0<=k/\k<L)/\φ k=f
structure WoM(φ:Int->Int)(L L':Nat)(M:Mach):Prop where
 ph:Ph φ L L'
 p:Parts 1 64 M
 n6:M.rows.length<=6
 lt:ltr M=L
 z:stp M.rows 0 0=0
def cdr(φ:Int->Int)(L:Nat)(d:Int):List Int:=cbf φ L d.toNat
noncomputable def thS(φ:Int->Int)(L L':Nat)(M:Mach):Th (List Int):=⟨frS M.rows (cdr φ L 0),L',100,λrooms l=>ordI M.rows.length (ledL M.rows rooms (cbf φ L l)),allS M.rows.length⟩
section
variable {φ:Int->Int}{L L':Nat}{M:Mach}
theorem WoM.cb(h:WoM φ L L' M){f:Nat}:∀ k∈cbf φ L f,0<=k/\∀ x∈M.rows,k<x.length:=λk hk=>by
 have h1:=(Zcz.mp hk).1
 refine⟨h1.1,λx hx=>?_⟩
 rw[(h.p.row x hx).1]
 have:=h.lt
 show k<((ltr M:Nat):Int)
 omega
theorem WoM.fr(h:WoM φ L L' M):FrOk M.rows (cdr φ L 0):=by
 have n6:=h.n6
 have l0:=h.ph.l0
 have l1:=h.ph.l1
 refine⟨h.p.n0,by omega,h.cb,λx hx z hz=>(h.p.row x hx).2 z hz,?_,0,Zcz.mpr ⟨⟨Int.le_refl _,by omega⟩,h.ph.z⟩,h.z⟩
 exact Nat.le_trans (Zg1 _ _ _) (by omega)
theorem WoM.ld(h:WoM φ L L' M){f:Nat}{rooms:List Int}(hr:rooms∈allS M.rows.length):LdOk M.rows rooms (cbf φ L f):=by
 have n6:=h.n6
 have hl:=Zes hr
 have l1:=h.ph.l1
 refine⟨by omega,(Zgu hr).2,h.cb,λx hx z hz=>(h.p.row x hx).2 z hz,?_⟩
 exact Nat.le_trans (Nat.mul_le_mul (show rooms.length<=6 by omega) (show (cbf φ L f).length<=64 from Nat.le_trans (Zg1 _ _ _) l1)) (by decide)
theorem WoM.led(h:WoM φ L L' M){f:Nat}{rooms:List Int}(hr:rooms∈allS M.rows.length):∀ y∈ledL M.rows rooms (cbf φ L f),0<=y/\y<M.rows.length:=λy hy=>by
 obtain⟨k,hk,x,hx,rfl⟩:=ZbI.mp hy
 exact (h.ld hr).at hx hk
theorem Zh0(h:WoM φ L L' M):(thS φ L L' M).Ok:=by
 have hl:=Zkc h.n6
 have l1':=h.ph.l1'
 refine⟨?_,λx hx l hlt=>?_,?_,?_,?_⟩
 ·refine List.mem_filter.mpr ⟨ZhY (Zoy _ _),decide_eq_true λz=>?_⟩
  have z:frS M.rows (cdr φ L 0)=[]:=z
  have:(0:Int)∈frS M.rows (cdr φ L 0):=Zer.mpr ⟨⟨Int.le_refl _,by have:=h.p.n0;omega⟩,.z⟩
  rw[z] at this
  cases this
 ·have hx:x∈allS M.rows.length:=hx
  obtain⟨k,hk1,hk2⟩:=h.ph.s l hlt
  obtain⟨x0,hx0⟩:=List.exists_mem_of_ne_nil x (Zgu hx).1
  have hm:stp M.rows x0 k∈ledL M.rows x (cbf φ L l):=ZbI.mpr ⟨k,Zcz.mpr ⟨hk1,hk2⟩,x0,hx0,rfl⟩
  exact Zm3 (h.led hx _ hm) hm
 ·show ((allS M.rows.length).length:Int)<=100
  omega
 ·show L'<=1000
  omega
 ·show (allS M.rows.length).length<=1000
  omega
theorem Rch.in'{rows:List (List Int)}{codes:List Int}(f:FrOk rows codes){y:Int}(h:Rch rows codes y):0<=y/\y<rows.length:=by
 induction h with
 | z=>have:=f.n0;omega
 | @s r c _ hc ih =>
  have hx:=Zaq (d:=[]) (show r.toNat<rows.length by omega)
  have h1:=(f.c _ hc).2 _ hx
  have h2:=(f.c _ hc).1
  exact f.y _ hx _ (Zaq (d:=0) (by omega))
theorem Zm4(h:WoM φ L L' M)(w:List Int):Dgb (L':Nat) w->runT (thS φ L L' M) w∈allS M.rows.length/\∀ y,y∈runT (thS φ L L' M) w↔InS M.rows (cdr φ L) w y:=by
 have ok:=Zh0 h
 refine Zcx (M:=λw=>Dgb (L':Nat) w->runT (thS φ L L' M) w∈allS M.rows.length/\∀ y,y∈runT (thS φ L L' M) w↔InS M.rows (cdr φ L) w y) w (λ_=>⟨ok.mem,λy=>?_⟩) λv d ih hw=>?_
 ·exact Zer.trans ⟨λz=>z.2,λz=>⟨Rch.in' h.fr z,z⟩⟩
 ·obtain⟨hv,hd⟩:=hw.snoc
  obtain⟨i1,i2⟩:=ih hv
  rw[Zep]
  refine⟨ok.cl _ i1 _ (by show d.toNat<L';omega),λy=>?_⟩
  rw[InS.snoc]
  show y∈ordI M.rows.length (ledL M.rows (runT (thS φ L L' M) v) (cbf φ L d.toNat))↔_
  rw[Zg3]
  constructor
  ·rintro⟨_,hy⟩
   obtain⟨k,hk,x,hx,e⟩:=ZbI.mp hy
   exact⟨k,hk,x,(i2 x).mp hx,e⟩
  ·rintro⟨k,hk,x,hx,e⟩
   have hy:=ZbI.mpr ⟨k,hk,x,(i2 x).mpr hx,e⟩
   exact⟨h.led i1 _ hy,hy⟩
def PW(φ:Int->Int)(L:Nat)(w u:List Int):Prop:=Dgb (L:Nat) u/\∃ j,u.map φ=List.replicate j 0++w
theorem Dgb.nil(b:Int):Dgb b []:=λ_ z=>by cases z
theorem Zoz{rows:List (List Int)}{y:Int}:Rch rows (cdr φ L 0) y↔∃ u,(Dgb (L:Nat) u/\∃ j,u.map φ=List.replicate j 0)/\y=rm rows u:=by
 constructor
 ·intro h
  induction h with
  | z=>exact⟨[],⟨Dgb.nil _,0,rfl⟩,rfl⟩
  | @s r c _ hc ih =>
   obtain⟨u,⟨h1,j,h2⟩,e⟩:=ih
   obtain⟨c1,c2⟩:=Zcz.mp hc
   refine⟨u++[c],⟨h1.add c1,j+1,?_⟩,by rw[Zbv,e]⟩
   rw[List.map_append,h2,List.replicate_succ']
   show _++[φ c]=_
   rw[c2];rfl
 ·rintro⟨u,⟨h1,j,h2⟩,rfl⟩
  revert j h1
  refine Zcx (M:=λu=>Dgb (L:Nat) u->∀ j,u.map φ=List.replicate j 0->Rch rows (cdr φ L 0) (rm rows u)) u (λ_ _ _=>.z) λv d ih hu j hj=>?_
  obtain⟨hv,hd⟩:=hu.snoc
  have hz:∀ x∈(v++[d]).map φ,x=0:=λx hx=>by rw[hj] at hx;exact (List.mem_replicate.mp hx).2
  have e:v.map φ=List.replicate v.length 0:=List.eq_replicate_iff.mpr ⟨by rw[List.length_map],λx hx=>hz x (by rw[List.map_append];exact List.mem_append_left _ hx)⟩
  rw[Zbv]
  exact .s (ih hv _ e) (Zcz.mpr ⟨hd,hz (φ d) (by rw[List.map_append];exact List.mem_append_right _ (.head _))⟩)
theorem ZoA{rows:List (List Int)}(hi:∀ k,0<=k/\k<(L:Int)->0<=φ k)(w:List Int):Dgb (L':Nat) w->∀ y,InS rows (cdr φ L) w y↔∃ u,PW φ L w u/\y=rm rows u:=by
 refine Zcx (M:=λw=>Dgb (L':Nat) w->∀ y,InS rows (cdr φ L) w y↔∃ u,PW φ L w u/\y=rm rows u) w (λ_ y=>?_) λv d ih hw y=>?_
 ·refine Zoz.trans ⟨λ⟨u,⟨h1,j,h2⟩,e⟩=>⟨u,⟨h1,j,by rw[h2,List.append_nil]⟩,e⟩,λ⟨u,⟨h1,j,h2⟩,e⟩=>⟨u,⟨h1,j,by rw[List.append_nil] at h2;exact h2⟩,e⟩⟩
 ·obtain⟨hv,hd⟩:=hw.snoc
  rw[InS.snoc]
  constructor
  ·rintro⟨c,hc,r,hr,rfl⟩
   obtain⟨u,⟨h1,j,h2⟩,rfl⟩:=(ih hv r).mp hr
   obtain⟨c1,c2⟩:=Zcz.mp hc
   refine⟨u++[c],⟨h1.add c1,j,?_⟩,by rw[Zbv]⟩
   rw[List.map_append,h2,List.append_assoc]
   show _++(v++[φ c])=_
   rw[c2,Int.toNat_of_nonneg hd.1]
  ·rintro⟨u,⟨h1,j,h2⟩,rfl⟩
   have hne:u≠[]:=λz=>by rw[z] at h2;simp at h2
   obtain⟨u',c,rfl⟩:∃ u' c,u=u'++[c]:=⟨u.dropLast,u.getLast hne,(List.dropLast_concat_getLast hne).symm⟩
   obtain⟨hu',hc⟩:=h1.snoc
   rw[List.map_append,<- List.append_assoc] at h2
   obtain⟨e1,e2⟩:=List.append_inj' h2 rfl
   have e2:φ c=d:=by simpa using e2
   refine⟨c,Zcz.mpr ⟨hc,by rw[e2,Int.toNat_of_nonneg hd.1]⟩,rm rows u',(ih hv _).mpr ⟨u',⟨hu',j,e1⟩,rfl⟩,by rw[Zbv]⟩
theorem ZlM{α:Type}[DecidableEq α]{θ:Th α}{sg:α->Int}{N:Mach}(hN:LmOut θ sg N):ltr N=θ.n/\IsL N/\Parts 1 64 N/\(∀ w,Dgb (θ.n:Nat) w->sgw N w=sg (runT θ w))/\(θ.Ok->N.rows.length<=θ.U.length)/\(∀ x∈N.signs,∃ a∈θ.U,x=sg a):=by
 obtain⟨F',R',G,hX,hL',hB',rfl⟩:=hN
 have e:ltr (mMet θ sg F')=θ.n:=Zm2 hX
 refine⟨hB'.lt.trans e,⟨_,R',G,hL',hB',rfl⟩,hB'.parts,λw hw=>?_,λ_=>?_,λx hx=>?_⟩
 ·rw[Zeo hL' hB' (by show Dgb ((ltr _:Nat):Int) w;rw[e];exact hw),Zlk hX hw]
 ·rw[hB'.len]
  refine Nat.le_trans hB'.le ?_
  show (F'.map _).length<=_
  rw[List.length_map]
  exact Zbq hX.nd hX.u
 ·obtain⟨a,ha,rfl⟩:=List.mem_map.mp (show x∈G.map (sgR (mMet θ sg F')) from hx)
  have hu:=Zay.mp (hB'.u a ha)
  have hlen:(mMet θ sg F').rows.length=F'.length:=List.length_map ..
  have hlt:a.toNat<F'.length:=by omega
  refine⟨F'[a.toNat],hX.u _ (List.getElem_mem hlt),?_⟩
  show (F'.map sg).getD a.toNat 0=_
  rw[List.getD_eq_getElem?_getD,List.getElem?_map,List.getElem?_eq_getElem hlt]
  rfl
theorem ZlN{α:Type}[DecidableEq α]{θ:Th α}{sg:α->Int}{N:Mach}(hN:LmOut θ sg N)(ok:θ.Ok)(n1:1<=θ.n)(hz:θ.g θ.start 0=θ.start):stp N.rows 0 0=0:=by
 obtain⟨F',R',G,hX,hL',hB',rfl⟩:=hN
 refine Ze3 hL' hB' ?_
 have:=(ZhW (sg:=sg) hX [0] (λd hd=>by rw[List.mem_singleton.mp hd];omega)).2
 have e:runT θ [0]=θ.start:=hz
 rw[e] at this
 obtain⟨r,er⟩:=hX.bf.pre
 have e0:F'.idxOf θ.start=0:=by rw[er];simp
 rw[e0] at this
 exact this
end
theorem Zll(rows:List (List Int)):(oL rows).clean=true:=ZaH λr=>ZbB r
theorem Zbd(b:Int)(ns:List OkS)(N:Mach):noLst (relD b ns N)=true:=by
 have h1:noLsts (ns.map dS)=true:=ZaW (λ_=>rfl) ns
 have h2:=Zct N
 simpa only[noLst,noLsts,Bool.and_true,Bool.true_and,h1] using h2
def rst(ns:List OkS)(c:OkS):List OkS:=ns.filter λx=>decide (x≠c)
theorem ZoB{Q:TV->Prop}{X:Exc->Prop}{rows:List (List Int)}{codes:List Int}(h:FrOk rows codes)(q:Q (.av (.d (tI (frS rows codes))))):ClR Zj6 ZgZ NP [] Q X [.av (.d (tR rows)),.av (.d (dI codes))] :=
 ⟨[.d (tR rows),.d (dI codes)],.cons (.d NR.av rfl) (.cons (.d NR.av rfl) .nil),⟨rows,codes,rfl,h⟩,λc ⟨r1,r2,ys,e,o,a,ec⟩=>by
  simp only[List.append_nil,List.cons.injEq,AV.d.injEq,and_true] at e
  have e1:=ZlI e.1
  have e2:=ZjS e.2
  subst e1 e2 ec
  rw[ZpR o a]
  exact⟨_,Got.own (Zc6 _),q⟩,λ_ z=>z.elim⟩
theorem ZfM{α:Type}{β:Type}(p:α->Prop)[DecidablePred p](f:α->β):∀ xs:List α,(xs.filterMap λx=>if p x then some (f x) else none)=(xs.filter λx=>decide (p x)).map f
 | []=>rfl
 | a::xs=>by
  by_cases h:p a
  ·rw[List.filterMap_cons_some (b:=f a) (by rw[if_pos h]),List.filter_cons_of_pos (by simpa using h),List.map_cons,ZfM p f xs]
  ·rw[List.filterMap_cons_none (by rw[if_neg h]),List.filter_cons_of_neg (by simpa using h),ZfM p f xs]
structure WoC(b:Int)(ns:List OkS)(c:OkS)(M:Mach):Prop where
 hb:2<=b/\b<=5
 l:ns.length<=2
 m:WoM (phi b ns (rst ns c)) (b ^ ns.length).toNat (b ^ (rst ns c).length).toNat M
structure WoIx where
 b:Int
 ns:List OkS
 c:OkS
 M:Mach
 sg:List Int->Int
noncomputable abbrev thC(b:Int)(ns:List OkS)(c:OkS)(M:Mach):Th (List Int):=thS (phi b ns (rst ns c)) (b ^ ns.length).toNat (b ^ (rst ns c).length).toNat M
noncomputable abbrev WoIx.th(i:WoIx):Th (List Int):=thC i.b i.ns i.c i.M
structure WoIx.Ok(i:WoIx):Prop where
 h:WoC i.b i.ns i.c i.M
 s:∀ x∈allS i.M.rows.length,0<=i.sg x/\i.sg x<=9
def Zke(P:Program)(w:World)(K:W.Frag)(mg:Str->Option Value)(base:Heap)(i:WoIx)(cs:List AV):Prop :=
 i.Ok/\cs=[.d (relD i.b i.ns i.M),.d (dS i.c),.obj (CloOk P w K mg base CX0 2 (spR K (PreS tI i.th) (PostS tI i.sg) NP))]
def Zg6(i:WoIx)(_:List AV)(d:AV):Prop:=∃ N,LmOut i.th i.sg N/\d=.d (relD i.b (rst i.ns i.c) N)
theorem Zc7{ns:List OkS}{c:OkS}(h:ns.length<=2):(rst ns c).length<=2:=Nat.le_trans (List.length_filter_le _ _) h
theorem WoC.cw{b:Int}{ns:List OkS}{c:OkS}{M:Mach}(h:WoC b ns c M):CwOk b ns (rst ns c):=⟨h.hb,h.l,Zc7 h.l,λx hx=>(List.mem_filter.mp hx).1⟩
theorem Ze4(T:Txt K mg)(B:base.BuiltinsAt mg mainGlobals)(hTs:∀ p∈ts0,p∈Tabs.ts):Cal P w K mg base CX0 8 "without" ["relation", "name", "sign"] [] (spF K (Zke P w K mg base) Zg6):=by
 obtain⟨c0,T0⟩:=T.x_without
 have c_codes_by_rest:Cal P w K mg base CX0 5 "codes_by_rest" ["base", "names", "rest"] [] (spV K Zox NX):=ZdP T
 have c_least_met:Cal P w K mg base CX0 7 "least_met" ["start", "letters", "lead", "sign", "most"] [] (spF K (Zkd P w K mg base tI) Zg5):=ZdK T B hTs KEnc.ints (λa b e=>Zj5 e) λx=>Zc6 x
 have c_first_rooms:Cal P w K mg base CX0 2 "first_rooms" ["rows", "codes"] [] (spR K Zj6 ZgZ NP):=ZeF T
 have c_led_rooms:Cal P w K mg base CX0 1 "led_rooms" ["rows", "rooms", "codes"] [] (spR K ZfH ZdY NP):=ZdI T
 refine valRMF (k:=7) T0 Za8 (λθ cs ⟨_,e⟩=>by rw[e];rfl) (λθ f A outer s H E hr=>?_)
 refine⟨_,(Zac (Zal (i:=3) Za8.nd rfl (Or.inl rfl) (Zao (Zag (K:=K) rfl hr.units) (pv 0) Zae (λ_ _=>rfl)))
   (Zac (Zal (i:=4) Za8.nd rfl (Or.inl rfl) (Zao (Zag (K:=K) rfl hr.units) (pv 0) Zae (λ_ _=>rfl)))
   (Zac (Zal (i:=5) Za8.nd rfl (Or.inr rfl) (Zao (Zag (K:=K) rfl hr.units) (Zao (Zag (K:=K) rfl hr.units) (pv 0) Zae (λ_ _=>rfl)) Zae (λ_ _=>rfl)))
   (Zac (Zal (i:=6) Za8.nd rfl (Or.inl rfl) (ZaD (ZaQ (K:=K) rfl) rfl T.n_tuple PyProof.Rows.boot_tuple (Zaa (Zbs (N:=["other", "name"]) (cap:=[none,some 1]) rfl rfl rfl (by kernel_rfl) (ZbD (K:=K) rfl (pv 4)) (λ_ _ _ _=>(Zav (i:=0) (show (["other", "name"]:List Str).Nodup from by decide +kernel) rfl (Or.inl rfl))) (λ_ _ _ _=>(Zkx (ZaA (Zcl (K:=K) rfl hr.units) (pv 0) (pv 1) (nomark _)))) (λ_ _ _ _=>(pv 0))) Zab)))
   (Zac (Zal (i:=7) Za8.nd rfl (Or.inr rfl) (Zai (c_codes_by_rest.mono (by decide)) hr rfl pass0 (Zaa (pv 3) (Zaa (pv 4) (Zaa (pv 6) Zab)))))
   (Zac (Zdh (name := "lead") (qual := "without.<locals>.lead") (params:=defArgs ZaF) (body:=defBody ZaF) (scope:=defScope ZaF) (P:=Zbj) (i:=8) Za8.nd rfl (Or.inl rfl) rfl rfl rfl rfl rfl T0.tab Zef B)
   (Zaf (Zap (ZbM (Zaa (pv 3) (Zaa (pv 6) (Zaa (ZcT (c_least_met.mono (by decide)) hr rfl (pass0L (E:=E0)) (Zaa (Zai (c_first_rooms.mono (by decide)) hr rfl pass0 (Zaa (pv 5) (Zaa (Zao (Zag (K:=K) rfl hr.units) (pv 7) Zae (λ_ _=>rfl)) Zab))) (Zaa (Zaz (ZaC (K:=K) rfl) rfl T.n_len PySem.boot_len (Zaa (pv 7) Zab)) (Zaa (pv 8) (Zaa (pv 2) (Zaa (ZeO T.g_MOST_ROOMS rfl) Zab)))))) Zab)))))))))))),?_⟩
 rintro cs ⟨⟨hC,hsg⟩,rfl⟩
 obtain⟨b,ns,c,M,sg⟩:=θ
 replace hC:WoC b ns c M:=hC
 replace hsg:∀ x∈allS M.rows.length,0<=sg x/\sg x<=9:=hsg
 have h:=hC.m
 have hcw:=hC.cw
 have hp1:=ZcH hC.hb hC.l
 have hp2:=ZcH hC.hb (Zc7 (c:=c) hC.l)
 show Sv K _ _ _ [some (.d (relD b ns M)),some (.d (dS c)),some (.obj (CloOk P w K mg base CX0 2 (spR K (PreS tI (thC b ns c M)) (PostS tI sg) NP))),none,none,none,none,none,none] _
 walk_at "vm"
 refine ZlC (α:=OkS) ?_
 walk_at "vm"
 refine⟨ns,dS,λx=>if x≠c then some (.d (dS x)) else none,.inr rfl,NR.av,Nat.le_trans hC.l (by decide),λi hi=>?_,?_⟩
 ·show Gv K _ _ [none,some (.d (dS c))] _
  walk_at "vm"
  refine⟨wk_0,?_⟩
  walk_at "vm"
  refine ne_d (f:=dS) (c:=ns[i]) (d:=c) Enc.str rfl rfl ?_
  refine⟨_,rfl,?_⟩
  refine ite2 (λhne=>?_) λheq=>?_
  ·have hne:ns[i]≠c:=by simpa using hne
   walk_at "vm"
   exact⟨_,if_pos hne,rfl⟩
  ·have heq:¬ ns[i]≠c:=by simpa using heq
   exact if_neg heq
 rw[ZfM (λx=>x≠c) (λx=>AV.d (dS x))]
 refine⟨_,Got.own (ZaH λ_=>rfl),?_⟩
 walk_at "vm"
 refine Zbt (ds:=(rst ns c).map dS) (by rw[TV.data,AV.data,Zaw];rfl) (Kp.flat (ZaW (λ_=>rfl) _)) ?_
 walk_at "vm"
 refine ZaR (by walk_at "nrs") ⟨b,ns,rst ns c,rfl,hcw,λk hk=>by have:=h.ph.i k (by omega);omega,rfl⟩ (Got.own (Zll _)) ?_
 refine v_sD (ZjL _) ?_
 generalize hφ:phi b ns (rst ns c)=φ at h
 have hθ:thC b ns c M=thS φ (b ^ ns.length).toNat (b ^ (rst ns c).length).toNat M:=by rw[<- hφ]
 rw[hθ]
 generalize hL0:(b ^ ns.length).toNat=L0 at h ⊢
 generalize hL1:(b ^ (rst ns c).length).toNat=L' at h ⊢
 walk_at "vm"
 refine Zdi (hTs (Zbj,ZeZ) (by simp[ts0])) (by decide +kernel) (by show 8<9;decide) ?_
 show Sv K _ _ _ [some (.d (relD b ns M)),some (.d (dS c)),some (.obj (CloOk P w K mg base CX0 2 (spR K (PreS tI (thS φ L0 L' M)) (PostS tI sg) NP))),some (.d (.int b)),some (.d (.tuple (ns.map dS))),some (.d (tR M.rows)),some (.d (.tuple ((rst ns c).map dS))),some (.d (dRows (cbr φ L' L0))),some (.obj _)] _
 have l0':=h.ph.l0'
 have l1':=h.ph.l1'
 have hcl:(cbr φ L' L0).length=L':=by unfold cbr;rw[List.length_map,List.length_range]
 have hca:∀ l:Nat,l<L'->atI ((cbr φ L' L0).map dI) (l:Int)=some (dI (cbf φ L0 l)):=λl hl=>by
  rw[ZmZ (f:=dI) (d:=[]) (by omega) (by rw[hcl];omega),Int.toNat_natCast]
  unfold cbr
  rw[List.getD_eq_getElem?_getD,List.getElem?_map,List.getElem?_range hl]
  rfl
 walk_at "vm"
 refine ZbC ?_
 walk_at "vm"
 refine ZcU ?_
 walk_at "vm"
 refine ix_L rfl (hca 0 (by omega)) Item.d ?_
 walk_at "vm"
 refine ZoB (codes:=cdr φ L0 0) h.fr ?_
 walk_at "vm"
 refine Zf5 rfl ?_
 rw[List.length_map,hcl]
 walk_at "vm"
 refine⟨(thS φ L0 L' M,sg),[.d (tI (frS M.rows (cdr φ L0 0))),.d (.int L'),.obj (CloOk P w K mg base CX0 2 (spR K (PreL tI (thS φ L0 L' M)) (PostL tI (thS φ L0 L' M)) NP)),.obj (CloOk P w K mg base CX0 2 (spR K (PreS tI (thS φ L0 L' M)) (PostS tI sg) NP)),.d (.int 100)],
  .cons (.d NR.av rfl) (.cons (.d NR.av rfl) (.cons (.o (λv G1 G2 m h=>h.same m) λH0 σ ts as H1 H2 v s L hm=>?lead) (.cons (.o (λv G1 G2 m h=>h.same m) λH0 σ ts as H1 H2 v s L hm=>hm.same L.same) (.cons (.d NR.av rfl) .nil)))),⟨⟨Zh0 h,rfl⟩,⟨l0',l1',Nat.le_trans (Zkc h.n6) (by decide),hsg⟩⟩,λd ⟨N,hN,ec⟩=>?_⟩
 case lead =>
  refine Zdj (k:=1) Zee ZdN Za8.nofree (λ_=>rfl) (λ_ _ _ _ _ s us hl=>by obtain⟨a,b,rfl⟩:=len2 hl;exact .of_eq rfl) (λcs ⟨x,l,e,_⟩=>by rw[e];rfl) (λcs ⟨x,l,e,_⟩=>by rw[e];rfl) hm L s λcl f c A outer s H E hr=>?_
  refine⟨_,(Zaf (Zap (Zai (c_led_rooms.mono (by decide)) hr rfl pass0 (Zaa (pv 2) (Zaa (pv 0) (Zaa (Zao (Zag (K:=K) rfl hr.units) (pv 3) (pv 1) (λ_ _=>rfl)) Zab)))))),?_⟩
  rintro cs ⟨x,l,rfl,hx,hl⟩
  show Sv K _ _ _ [some (.d (tI x)),some (.d (.int l)),some (.d (tR M.rows)),some (.d (dRows (cbr φ L' L0)))] _
  have hx:x∈allS M.rows.length:=hx
  have hl:l<L':=hl
  walk_at "vs"
  refine ix_L rfl (hca l hl) Item.d ?_
  walk_at "vs"
  refine ZgY (h.ld hx) λys o=>?_
  rw[OnceI.one o (ZhZ (h.led hx))]
  exact⟨_,ZaZ rfl,x,l,rfl,rfl⟩
 subst ec
 refine⟨rfl,_,Got.own (Zct _),?_⟩
 walk_at "vm"
 exact⟨[.d (.int b),.d (.tuple ((rst ns c).map dS)),.d (dM N)],.cons rfl (.cons rfl (.cons rfl .nil)),by show 3<=1000;decide,_,ZaZ rfl,N,by rw[show WoIx.th ⟨b,ns,c,M,sg⟩=thC b ns c M from rfl,hθ,hL0,hL1];exact hN,rfl⟩
def sgS(M:Mach)(rooms:List Int):Int:=mxI (rooms.map λx=>M.signs.getD x.toNat 0)
def mnI(l:List Int):Int:=0-mxI (l.map λx=>0-x)
theorem ZoC{l:List Int}{m:Int}(h1:m∈l)(h2:∀ x∈l,m<=x):m=mnI l:=by
 have:=ZlL (l:=l.map λx=>0-x) (m:=0-m) (List.mem_map.mpr ⟨m,h1,rfl⟩) (λx hx=>by obtain⟨y,hy,rfl⟩:=List.mem_map.mp hx;have:=h2 y hy;omega)
 unfold mnI
 omega
theorem Zg7{l:List Int}(h:l≠[]):mnI l∈l/\∀ x∈l,mnI l<=x:=by
 obtain⟨a,b⟩:=Zeq (l:=l.map λx=>0-x) λz=>h (List.map_eq_nil_iff.mp z)
 obtain⟨y,hy,e⟩:=List.mem_map.mp a
 unfold mnI
 rw[<- e] at b ⊢
 rw[show (0:Int)-(0-y)=y by omega]
 exact⟨hy,λx hx=>by have:=b _ (List.mem_map.mpr ⟨x,hx,rfl⟩);omega⟩
def sgE(M:Mach)(rooms:List Int):Int:=mnI (rooms.map λx=>M.signs.getD x.toNat 0)
theorem ZeH{M:Mach}(hP:Parts 1 64 M){x:List Int}(hx:x∈allS M.rows.length):x.map (λx=>M.signs.getD x.toNat 0)≠[]/\∀ s∈x.map (λx=>M.signs.getD x.toNat 0),s∈M.signs:=by
 obtain⟨h1,h2⟩:=Zgu hx
 refine⟨λz=>h1 (List.map_eq_nil_iff.mp z),λs hs=>?_⟩
 obtain⟨y,hy,rfl⟩:=List.mem_map.mp hs
 exact Zaq (by rw[hP.s];have:=h2 y hy;omega)
theorem ZoD{M:Mach}(hP:Parts 1 64 M){x:List Int}(hx:x∈allS M.rows.length):0<=sgS M x/\sgS M x<=9:=hP.sg _ ((ZeH hP hx).2 _ (Zeq (ZeH hP hx).1).1)
theorem ZoE{M:Mach}(hP:Parts 1 64 M){x:List Int}(hx:x∈allS M.rows.length):0<=sgE M x/\sgE M x<=9:=hP.sg _ ((ZeH hP hx).2 _ (Zg7 (ZeH hP hx).1).1)
def Zgv(cs:List AV):Prop:=∃ (b:Int) (ns:List OkS) (c:OkS) (M:Mach),cs=[.d (relD b ns M),.d (dS c)]/\ns.length<=2/\(c∈ns->WoC b ns c M)
def ZdL(sgf:Mach->List Int->Int)(cs:List AV)(d:AV):Prop:=∃ (b:Int) (ns:List OkS) (c:OkS) (M:Mach),cs=[.d (relD b ns M),.d (dS c)]/\((c∈ns/\∃ N,LmOut (thC b ns c M) (sgf M) N/\d=.d (relD b (rst ns c) N))\/(c∉ns/\d=.d (relD b ns M)))
theorem Zm5(T:Txt K mg)(B:base.BuiltinsAt mg mainGlobals)(hTs:∀ p∈ts0,p∈Tabs.ts):Cal P w K mg base CX0 9 "some" ["relation", "name"] [] (spR K Zgv (ZdL sgS) NP):=by
 obtain⟨c0,T0⟩:=T.x_some
 have c_without:Cal P w K mg base CX0 8 "without" ["relation", "name", "sign"] [] (spF K (Zke P w K mg base) Zg6):=Ze4 T B hTs
 refine valRM (k:=8) T0 Zfv (λcs ⟨_,_,_,_,e,_⟩=>by rw[e];rfl) (λf A outer s H E hr=>?_)
 refine⟨_,(Zac (Zdv (ZaA (Zci (K:=K) rfl hr.units) (pv 1) (Zao (Zag (K:=K) rfl hr.units) (pv 0) Zae (λ_ _=>rfl)) (by with_unfolding_all rfl))
    (Zaf (Zap (pv 0)))
    ZaY)
   (Zac (Zal (i:=2) Zfv.nd rfl (Or.inr rfl) (Zao (Zag (K:=K) rfl hr.units) (Zao (Zag (K:=K) rfl hr.units) (pv 0) Zae (λ_ _=>rfl)) Zae (λ_ _=>rfl)))
   (Zac (Zdh (name := "sign") (qual := "some.<locals>.sign") (params:=defArgs ZaT) (body:=defBody ZaT) (scope:=defScope ZaT) (P:=Zc4) (i:=3) Zfv.nd rfl (Or.inl rfl) rfl rfl rfl rfl rfl T0.tab Zgk B)
   (Zaf (Zap (ZcT (c_without.mono (by decide)) hr rfl (pass0L (E:=E0)) (Zaa (pv 0) (Zaa (pv 1) (Zaa (pv 3) Zab))))))))),?_⟩
 rintro cs ⟨b,ns,c,M,rfl,hnl,hW⟩
 show Sv K _ _ _ [some (.d (relD b ns M)),some (.d (dS c)),none,none] _
 walk_at "vm"
 refine Zn8 (f:=dS) (c:=c) (xs:=ns) Enc.str rfl (.inr rfl) ?_
 refine⟨_,rfl,?_⟩
 refine ite2 (λhx=>?_) λhx=>?_
 ·have hx:c∉ns:=by simpa using hx
  walk_at "vm"
  exact⟨_,ZaZ rfl,b,ns,c,M,rfl,.inr ⟨hx,rfl⟩⟩
 have hc:c∈ns:=by simpa using hx
 have hC:=hW hc
 have h:=hC.m
 walk_at "vm"
 refine Zdi (hTs (Zc4,ZjJ) (by simp[ts0])) (by decide +kernel) (by show 3<4;decide) ?_
 show Sv K _ _ _ [some (.d (relD b ns M)),some (.d (dS c)),some (.d (tI M.signs)),some (.obj _)] _
 walk_at "vm"
 refine ZcU ?_
 walk_at "vm"
 refine⟨⟨b,ns,c,M,sgS M⟩,[.d (relD b ns M),.d (dS c),.obj (CloOk P w K mg base CX0 2 (spR K (PreS tI (thC b ns c M)) (PostS tI (sgS M)) NP))],
  .cons (.d NR.av rfl) (.cons (.d NR.av rfl) (.cons (.o (λv G1 G2 m h=>h.same m) λH0 σ ts as H1 H2 v s L hm=>?sign) .nil)),⟨⟨hC,λx hx=>ZoD h.p hx⟩,rfl⟩,λd ⟨N,hN,ec⟩=>?_⟩
 case sign =>
  refine Zdj (k:=1) Zgj Zfw Zfv.nofree (λ_=>rfl) (λ_ _ _ _ _ s us hl=>by obtain⟨a,rfl⟩:=len1 hl;exact .of_eq rfl) (λcs ⟨x,e,_⟩=>by rw[e];rfl) (λcs ⟨x,e,_⟩=>by rw[e];rfl) hm L s λcl f c A outer s H E hr=>?_
  refine⟨_,(Zaf (Zap (Zaz (ZjD (K:=K) rfl rfl) rfl T.n_max PyProof.Rows.boot_max (Zaa (Zbs (N:=["room", "signs"]) (cap:=[none,some 1]) rfl rfl rfl (by kernel_rfl) (ZbD (K:=K) rfl (pv 0)) (λ_ _ _ _=>(Zav (i:=0) (show (["room", "signs"]:List Str).Nodup from by decide +kernel) rfl (Or.inl rfl))) (λ_ _ _ _=>ZaV) (λ_ _ _ _=>(Zao (Zag (K:=K) rfl hr.units) (pv 1) (pv 0) (λ_ _=>rfl)))) Zab)))),?_⟩
  rintro cs ⟨x,rfl,hx⟩
  show Sv K _ _ _ [some (.d (tI x)),some (.d (tI M.signs))] _
  have hx:x∈allS M.rows.length:=hx
  obtain⟨h1,h2⟩:=Zgu hx
  have hlx:=Zes hx
  have n6:=h.n6
  walk_at "vs"
  refine ZcM (α:=Int) ?_
  walk_at "vs"
  refine⟨x,PyData.int,λy=>.d (.int (M.signs.getD y.toNat 0)),.inr rfl,NR.av,by omega,λi hi=>?_,_,Got.own (ZaH λ_=>rfl),?_⟩
  ·have hy:=h2 _ (List.getElem_mem hi)
   show Gv K _ _ [none,some (.d (tI M.signs))] _
   walk_at "vs"
   refine⟨wk_0,?_⟩
   walk_at "vs"
   exact ix_T rfl (Zb7 hy.1 (by rw[h.p.s];exact hy.2)) Item.d rfl
  walk_at "vs"
  refine ZmM (ns:=x.map λy=>M.signs.getD y.toNat 0) (by rw[TV.data,AV.data,Zaw,List.map_map];rfl) (λz=>h1 (List.map_eq_nil_iff.mp z)) λm m1 m2=>?_
  exact⟨_,ZaZ rfl,x,rfl,by rw[ZlL m1 m2];rfl⟩
 subst ec
 exact⟨rfl,_,Got.own (Zbd _ _ _),_,ZaZ rfl,b,ns,c,M,rfl,.inl ⟨hc,N,hN,rfl⟩⟩
theorem Zlm(T:Txt K mg)(B:base.BuiltinsAt mg mainGlobals)(hTs:∀ p∈ts0,p∈Tabs.ts):Cal P w K mg base CX0 9 "every" ["relation", "name"] [] (spR K Zgv (ZdL sgE) NP):=by
 obtain⟨c0,T0⟩:=T.x_every
 have c_without:Cal P w K mg base CX0 8 "without" ["relation", "name", "sign"] [] (spF K (Zke P w K mg base) Zg6):=Ze4 T B hTs
 refine valRM (k:=8) T0 ZdV (λcs ⟨_,_,_,_,e,_⟩=>by rw[e];rfl) (λf A outer s H E hr=>?_)
 refine⟨_,(Zac (Zdv (ZaA (Zci (K:=K) rfl hr.units) (pv 1) (Zao (Zag (K:=K) rfl hr.units) (pv 0) Zae (λ_ _=>rfl)) (by with_unfolding_all rfl))
    (Zaf (Zap (pv 0)))
    ZaY)
   (Zac (Zal (i:=2) ZdV.nd rfl (Or.inr rfl) (Zao (Zag (K:=K) rfl hr.units) (Zao (Zag (K:=K) rfl hr.units) (pv 0) Zae (λ_ _=>rfl)) Zae (λ_ _=>rfl)))
   (Zac (Zdh (name := "sign") (qual := "every.<locals>.sign") (params:=defArgs ZaM) (body:=defBody ZaM) (scope:=defScope ZaM) (P:=Zb6) (i:=3) ZdV.nd rfl (Or.inl rfl) rfl rfl rfl rfl rfl T0.tab Zfy B)
   (Zaf (Zap (ZcT (c_without.mono (by decide)) hr rfl (pass0L (E:=E0)) (Zaa (pv 0) (Zaa (pv 1) (Zaa (pv 3) Zab))))))))),?_⟩
 rintro cs ⟨b,ns,c,M,rfl,hnl,hW⟩
 show Sv K _ _ _ [some (.d (relD b ns M)),some (.d (dS c)),none,none] _
 walk_at "vm"
 refine Zn8 (f:=dS) (c:=c) (xs:=ns) Enc.str rfl (.inr rfl) ?_
 refine⟨_,rfl,?_⟩
 refine ite2 (λhx=>?_) λhx=>?_
 ·have hx:c∉ns:=by simpa using hx
  walk_at "vm"
  exact⟨_,ZaZ rfl,b,ns,c,M,rfl,.inr ⟨hx,rfl⟩⟩
 have hc:c∈ns:=by simpa using hx
 have hC:=hW hc
 have h:=hC.m
 walk_at "vm"
 refine Zdi (hTs (Zb6,ZhG) (by simp[ts0])) (by decide +kernel) (by show 3<4;decide) ?_
 show Sv K _ _ _ [some (.d (relD b ns M)),some (.d (dS c)),some (.d (tI M.signs)),some (.obj _)] _
 walk_at "vm"
 refine ZcU ?_
 walk_at "vm"
 refine⟨⟨b,ns,c,M,sgE M⟩,[.d (relD b ns M),.d (dS c),.obj (CloOk P w K mg base CX0 2 (spR K (PreS tI (thC b ns c M)) (PostS tI (sgE M)) NP))],
  .cons (.d NR.av rfl) (.cons (.d NR.av rfl) (.cons (.o (λv G1 G2 m h=>h.same m) λH0 σ ts as H1 H2 v s L hm=>?sign) .nil)),⟨⟨hC,λx hx=>ZoE h.p hx⟩,rfl⟩,λd ⟨N,hN,ec⟩=>?_⟩
 case sign =>
  refine Zdj (k:=1) Zfx ZeB ZdV.nofree (λ_=>rfl) (λ_ _ _ _ _ s us hl=>by obtain⟨a,rfl⟩:=len1 hl;exact .of_eq rfl) (λcs ⟨x,e,_⟩=>by rw[e];rfl) (λcs ⟨x,e,_⟩=>by rw[e];rfl) hm L s λcl f c A outer s H E hr=>?_
  refine⟨_,(Zaf (Zap (Zaz (Zjp (K:=K) rfl rfl) rfl T.n_min PyProof.Rows.boot_min (Zaa (Zbs (N:=["room", "signs"]) (cap:=[none,some 1]) rfl rfl rfl (by kernel_rfl) (ZbD (K:=K) rfl (pv 0)) (λ_ _ _ _=>(Zav (i:=0) (show (["room", "signs"]:List Str).Nodup from by decide +kernel) rfl (Or.inl rfl))) (λ_ _ _ _=>ZaV) (λ_ _ _ _=>(Zao (Zag (K:=K) rfl hr.units) (pv 1) (pv 0) (λ_ _=>rfl)))) Zab)))),?_⟩
  rintro cs ⟨x,rfl,hx⟩
  show Sv K _ _ _ [some (.d (tI x)),some (.d (tI M.signs))] _
  have hx:x∈allS M.rows.length:=hx
  obtain⟨h1,h2⟩:=Zgu hx
  have hlx:=Zes hx
  have n6:=h.n6
  walk_at "vs"
  refine ZcM (α:=Int) ?_
  walk_at "vs"
  refine⟨x,PyData.int,λy=>.d (.int (M.signs.getD y.toNat 0)),.inr rfl,NR.av,by omega,λi hi=>?_,_,Got.own (ZaH λ_=>rfl),?_⟩
  ·have hy:=h2 _ (List.getElem_mem hi)
   show Gv K _ _ [none,some (.d (tI M.signs))] _
   walk_at "vs"
   refine⟨wk_0,?_⟩
   walk_at "vs"
   exact ix_T rfl (Zb7 hy.1 (by rw[h.p.s];exact hy.2)) Item.d rfl
  walk_at "vs"
  refine ZmH (ns:=x.map λy=>M.signs.getD y.toNat 0) (by rw[TV.data,AV.data,Zaw,List.map_map];rfl) (λz=>h1 (List.map_eq_nil_iff.mp z)) λm m1 m2=>?_
  exact⟨_,ZaZ rfl,x,rfl,by rw[ZoC m1 m2];rfl⟩
 subst ec
 exact⟨rfl,_,Got.own (Zbd _ _ _),_,ZaZ rfl,b,ns,c,M,rfl,.inl ⟨hc,N,hN,rfl⟩⟩
def noM(M:Mach):Mach:=⟨M.rows,M.signs.map λs=>1-s⟩
def S_no(ds:List PyData)(c:AV):Prop:=∃ (b:Int) (ns:List OkS) (M:Mach),ds=[relD b ns M]/\M.signs.length<=1000/\c=.d (relD b ns (noM M))
theorem ZpS(T:Txt K mg):Cal P w K mg base CX0 1 "no" ["one"] [] (spV K S_no NX):=by
 refine val T.x_no Zok (λds c ⟨_,_,_,e,_⟩=>by rw[e];rfl) (λf cdv A outer s H E hr=>?_) [] (by simp)
 refine⟨_,(Zac (Zal (i:=1) Zok.nd rfl (Or.inl rfl) (Zao (Zag (K:=K) rfl hr.units) (pv 0) Zae (λ_ _=>rfl)))
   (Zaf (Zap (ZbM (Zaa (Zao (Zag (K:=K) rfl hr.units) (pv 0) Zae (λ_ _=>rfl)) (Zaa (Zao (Zag (K:=K) rfl hr.units) (pv 0) Zae (λ_ _=>rfl)) (Zaa (ZbM (Zaa (Zao (Zag (K:=K) rfl hr.units) (pv 1) Zae (λ_ _=>rfl)) (Zaa (ZaD (ZaQ (K:=K) rfl) rfl T.n_tuple PyProof.Rows.boot_tuple (Zaa (Zbs (N:=["sign"]) (cap:=[none]) rfl rfl rfl (by kernel_rfl) (ZbD (K:=K) rfl (Zao (Zag (K:=K) rfl hr.units) (pv 1) Zae (λ_ _=>rfl))) (λ_ _ _ _=>(Zav (i:=0) (show (["sign"]:List Str).Nodup from by decide +kernel) rfl (Or.inl rfl))) (λ_ _ _ _=>ZaV) (λ_ _ _ _=>(ZaG Zlu Zae (pv 0)))) Zab)) Zab))) Zab))))))),?_⟩
 rintro ds c ⟨b,ns,M,rfl,hs,rfl⟩
 show Sv K _ _ _ [some (.d (relD b ns M)),none] _
 walk_at "vm"
 refine ZbC ?_
 walk_at "vm"
 refine ZbC ?_
 walk_at "vm"
 refine ZcM (α:=Int) ?_
 walk_at "vm"
 refine⟨M.signs,PyData.int,λs=>.d (.int (1-s)),.inr rfl,NR.av,by omega,λi hi=>?_,_,Got.own (ZaH λ_=>rfl),?_⟩
 ·show Gv K _ _ [none] _
  walk_at "vm"
  refine⟨wk_0,?_⟩
  walk_at "vm"
  rfl
 walk_at "vm"
 refine Zbt (ds:=(M.signs.map λs=>1-s).map .int) (by rw[TV.data,AV.data,Zaw,List.map_map];rfl) (Kp.flat (ZaB _)) ?_
 walk_at "vm"
 refine⟨[.d (tR M.rows),.d (tI (M.signs.map λs=>1-s))],.cons rfl (.cons rfl .nil),by show 2<=1000;decide,?_⟩
 walk_at "vm"
 exact⟨[.d (.int b),.d (.tuple (ns.map dS)),.d (dM (noM M))],.cons rfl (.cons rfl (.cons rfl .nil)),by show 3<=1000;decide,ZaZ rfl⟩
structure SrtOk(ns:List OkS):Prop where
 nd:ns.Nodup
 l:ns.length<=2
 s:∀ a b,ns=[a,b]->PyProof.Rows.sortedS [b.1,a.1]=false
def S_ri(ds:List PyData)(c:AV):Prop:=∃ ns:List OkS,ds=[.tuple ((ns++ns).map dS)]/\SrtOk ns/\c=.d (.tuple (ns.map dS))
theorem ZoF{ns:List OkS}{ys:List Str}(h:SrtOk ns)(nd:ys.Nodup)(m:∀ y,y∈ys↔y∈ns.map Subtype.val)(s:PyProof.Rows.sortedS ys=true):ys=ns.map Subtype.val:=by
 have hp:ys.Perm (ns.map Subtype.val):=(List.perm_ext_iff_of_nodup nd (List.pairwise_map.mpr (h.nd.imp λhne e=>hne (Subtype.ext e)))).mpr m
 rcases len012 h.l with rfl|⟨a,rfl⟩|⟨a,b,rfl⟩
 ·exact hp.eq_nil
 ·exact List.perm_singleton.mp hp
 ·have hl:=hp.length_eq
  obtain⟨x,y,rfl⟩:∃ x y,ys=[x,y]:=by
   match ys,hl with
   | [x,y],_=>exact⟨x,y,rfl⟩
  have hx:=(m x).mp (.head _)
  have hy:=(m y).mp (.tail _ (.head _))
  have hxy:x≠y:=λe=>by subst e;simp at nd
  simp only[List.map_cons,List.map_nil,List.mem_cons,List.not_mem_nil,or_false] at hx hy
  rcases hx with rfl|rfl
  ·rcases hy with rfl|rfl
   ·exact absurd rfl hxy
   ·rfl
  ·rcases hy with rfl|rfl
   ·rw[h.s a b rfl] at s;cases s
   ·exact absurd rfl hxy
theorem Zkf(T:Txt K mg):Cal P w K mg base CX0 1 "rising" ["names"] [] (spV K S_ri NX):=by
 refine val T.x_rising ZjH (λds c ⟨n,e,_⟩=>by rw[e];rfl) (λf cdv A outer s H E hr=>?_) [] (by simp)
 refine⟨_,(Zaf (Zap (ZaD (ZaQ (K:=K) rfl) rfl T.n_tuple PyProof.Rows.boot_tuple (Zaa (Zaz (Zio (P:=P) (w:=w) rfl rfl rfl) rfl T.n_sorted PyProof.Rows.boot_sorted (Zaa (ZaD (Zit (P:=P) (w:=w) rfl rfl rfl) rfl T.n_set PyProof.Rows.boot_set (Zaa (pv 0) Zab)) Zab)) Zab)))),?_⟩
 rintro ds c ⟨ns,rfl,hS,rfl⟩
 show Sv K _ _ _ [some (.d (.tuple ((ns++ns).map dS)))] _
 have hl:=hS.l
 have e1:∀ xs:List OkS,xs.map dS=(xs.map Subtype.val).map .str:=λxs=>by rw[List.map_map];rfl
 walk_at "vs"
 refine Zk8 (P:=P) (w:=w) (ns:=(ns++ns).map Subtype.val) (by rw[TV.data,AV.data,e1]) (by rw[List.length_map,List.length_append];omega) λzs h1 h2 h3=>?_
 rw[List.length_map,List.length_append] at h3
 walk_at "vs"
 refine Zk3 (by omega) λys p1 p2=>?_
 have e:ys=ns.map Subtype.val:=ZoF hS (p1.nodup_iff.mpr h1) (λy=>(p1.mem_iff.trans (h2 y)).trans (by rw[List.map_append,List.mem_append];exact⟨λz=>z.elim id id,.inl⟩)) p2
 subst e
 walk_at "vs"
 refine Zbt (ds:=(ns.map Subtype.val).map .str) (by rw[TV.data,AV.data,Zaw]) (.inr (ZaW (λ_=>rfl) _)) ?_
 exact ZaZ (by rw[<- e1])
def S_ww(ds:List PyData)(c:AV):Prop:=∃ (b:Int) (ns:List OkS),ds=[.int b,.tuple (ns.map dS)]/\(2<=b/\b<=5)/\ns.length<=2/\c=.d .none
theorem ZfN(T:Txt K mg):Cal P w K mg base CX0 2 "want_width" ["base", "names"] [] (spV K S_ww NX):=by
 have c_letters_for:Cal P w K mg base CX0 1 "letters_for" ["base", "names"] [] (spV K Zgt NX):=Zbm T
 refine val T.x_want_width Zfu (λds c ⟨_,_,e,_⟩=>by rw[e];rfl) (λf cdv A outer s H E hr=>?_) [] (by simp)
 refine⟨_,(Zaf (Zdv (PW.pt (Zkt (ZaA ZiM (Zaz (ZaC (K:=K) rfl) rfl T.n_len PySem.boot_len (Zaa (pv 1) Zab)) (ZeO T.g_MOST_NAMES rfl) (nomark _)) (Zhe (ZaA ZiM (Zai (c_letters_for.mono (by decide)) hr rfl pass0 (Zaa (pv 0) (Zaa (pv 1) Zab))) (ZeO T.g_MOST_LETTERS rfl) (nomark _)))))
    (Zaf ZdQ)
    ZaY)),?_⟩
 rintro ds c ⟨b,ns,rfl,hb,hl,rfl⟩
 show Sv K _ _ _ [some (.d (.int b)),some (.d (.tuple (ns.map dS)))] _
 have hp:=ZcH hb hl
 walk_at "vs"
 refine ZkJ rfl ?_
 rw[List.length_map]
 walk_at "vs"
 refine iteN (by omega) ?_
 walk_at "vs"
 refine ZaR (by walk_at "nrs") ⟨b,ns,rfl,hb,hl,rfl⟩ (Got.own rfl) ?_
 walk_at "vs"
 refine iteN (by omega) ?_
 walk_at "vs"
 rfl
theorem ZoG{b k:Int}{ns:List OkS}(hb:2<=b/\b<=5)(h:SrtOk ns)(hk:0<=k/\k<b ^ ns.length):phi b ns ns k=k:=by
 obtain⟨h1,_,h3⟩:=Zka hb h.l hk
 have e:(ns.map λc=>(colD b ns.length k).getD (idxD ns c) 0)=colD b ns.length k:=by
  generalize colD b ns.length k=col at h1 h3
  rcases len012 h.l with rfl|⟨a,rfl⟩|⟨a,c,rfl⟩
  ·exact (List.length_eq_zero_iff.mp h1).symm
  ·match col,h1 with
   | [x],_=>simp[Zow]
  ·have hne:a≠c:=λe=>by subst e;have:=h.nd;simp at this
   match col,h1 with
   | [x,y],_=>simp[ZlJ,ZlK hne]
 unfold phi
 rw[e]
 exact h3
theorem ZoH{b:Int}{ns:List OkS}(hb:2<=b/\b<=5)(h:SrtOk ns):wtn b ns ns=rgI (b ^ ns.length).toNat:=by
 unfold wtn rgI
 refine List.map_congr_left λk hk=>?_
 have:=List.mem_range.mp hk
 exact ZoG hb h ⟨by omega,by omega⟩
def prodI(n m:Nat):List (Int×Int):=(rgI n).flatMap λx=>(rgI m).map λy=>(x,y)
theorem ZbJ{n m:Nat}{p:Int×Int}:p∈prodI n m↔(0<=p.1/\p.1<n)/\0<=p.2/\p.2<m:=by
 unfold prodI
 rw[List.mem_flatMap]
 constructor
 ·rintro⟨x,hx,h⟩
  obtain⟨y,hy,rfl⟩:=List.mem_map.mp h
  exact⟨Zay.mp hx,Zay.mp hy⟩
 ·rintro⟨h1,h2⟩
  exact⟨p.1,Zay.mpr h1,List.mem_map.mpr ⟨p.2,Zay.mpr h2,rfl⟩⟩
theorem Zet(n m:Nat):(prodI n m).length=n*m:=by
 unfold prodI
 have:∀ l:List Int,(l.flatMap λx=>(rgI m).map λy=>(x,y)).length=l.length*m:=λl=>by
  induction l with
  | nil=>simp
  | cons a l ih=>rw[List.flatMap_cons,List.length_append,ih,List.length_map,List.length_cons,Nat.succ_mul];simp[rgI];omega
 rw[this]
 simp[rgI]
def thP(A B:Mach)(L:Nat):Th (Int×Int):=⟨(0,0),L,100,λp l=>(stp A.rows p.1 l,stp B.rows p.2 l),prodI A.rows.length B.rows.length⟩
def sgP(g:Int->Int->Int)(A B:Mach)(p:Int×Int):Int:=g (A.signs.getD p.1.toNat 0) (B.signs.getD p.2.toNat 0)
structure PrOk(b:Int)(ns:List OkS)(A B:Mach)(g:Int->Int->Int):Prop where
 hb:2<=b/\b<=5
 s:SrtOk ns
 pa:Parts 1 64 A
 pb:Parts 1 64 B
 la:((ltr A:Nat):Int)=b ^ ns.length
 lb:((ltr B:Nat):Int)=b ^ ns.length
 n:A.rows.length*B.rows.length<=100
 g9:∀ x∈A.signs,∀ y∈B.signs,0<=g x y/\g x y<=9
theorem ZlO{b:Int}{ns:List OkS}{A B:Mach}{g:Int->Int->Int}(h:PrOk b ns A B g):(thP A B (b ^ ns.length).toNat).Ok:=by
 have hp:=ZcH h.hb h.s.l
 have n1:=h.pa.n0
 have n2:=h.pb.n0
 have la:=h.la
 have lb:=h.lb
 have hn:=h.n
 have hl:=Zet A.rows.length B.rows.length
 refine⟨ZbJ.mpr ⟨⟨Int.le_refl _,by show (0:Int)<_;omega⟩,Int.le_refl _,by show (0:Int)<_;omega⟩,λx hx l hlt=>?_,?_,?_,?_⟩
 ·have hx:=ZbJ.mp hx
  have hlt:l<(b ^ ns.length).toNat:=hlt
  exact ZbJ.mpr ⟨h.pa.stp hx.1.1 hx.1.2 (by omega) (by show (l:Int)<((ltr A:Nat):Int);omega),h.pb.stp hx.2.1 hx.2.2 (by omega) (by show (l:Int)<((ltr B:Nat):Int);omega)⟩
 ·show ((prodI _ _).length:Int)<=100;omega
 ·show (b ^ ns.length).toNat<=1000;omega
 ·show (prodI _ _).length<=1000;omega
theorem runP{A B:Mach}{L:Nat}(w:List Int):Dgb (L:Nat) w->runT (thP A B L) w=(rm A.rows w,rm B.rows w):=by
 refine Zcx (M:=λw=>Dgb (L:Nat) w->runT (thP A B L) w=(rm A.rows w,rm B.rows w)) w (λ_=>rfl) λv d ih hw=>?_
 obtain⟨hv,hd⟩:=hw.snoc
 rw[Zep,ih hv,Zbv,Zbv]
 show (stp A.rows _ (d.toNat:Int),stp B.rows _ (d.toNat:Int))=_
 rw[Int.toNat_of_nonneg hd.1]
def PreG(cs:List AV):Prop:=∃ x y:Int,cs=[.d (.int x),.d (.int y)]
def PostG(g:Int->Int->Int)(cs:List AV)(c:AV):Prop:=∃ x y:Int,cs=[.d (.int x),.d (.int y)]/\c=.d (.int (g x y))
structure PrIx where
 b:Int
 ns:List OkS
 A:Mach
 B:Mach
 g:Int->Int->Int
abbrev PrIx.Ok(i:PrIx):Prop:=PrOk i.b i.ns i.A i.B i.g
def ZlP(P:Program)(w:World)(K:W.Frag)(mg:Str->Option Value)(base:Heap)(i:PrIx)(cs:List AV):Prop :=
 i.Ok/\cs=[.d (.int i.b),.d (dM i.A),.d (.tuple (i.ns.map dS)),.d (dM i.B),.d (.tuple (i.ns.map dS)),.obj (CloOk P w K mg base CX0 1 (spR K PreG (PostG i.g) NP))]
def Zeu(i:PrIx)(_:List AV)(d:AV):Prop:=∃ N,LmOut (thP i.A i.B (i.b ^ i.ns.length).toNat) (sgP i.g i.A i.B) N/\d=.d (relD i.b i.ns N)
theorem ZoI{a b:Int×Int}(h:dP a=dP b):a=b:=by
 have h:=PyData.tuple.inj h
 simp only[List.cons.injEq,and_true,PyData.int.injEq] at h
 exact Prod.ext h.1 h.2
theorem Zkg(T:Txt K mg)(B:base.BuiltinsAt mg mainGlobals)(hTs:∀ p∈ts0,p∈Tabs.ts):Cal P w K mg base CX0 8 "paired" ["base", "one", "one_names", "other", "other_names", "sign"] [] (spF K (ZlP P w K mg base) Zeu):=by
 obtain⟨c0,T0⟩:=T.x_paired
 have c_rising:Cal P w K mg base CX0 1 "rising" ["names"] [] (spV K S_ri NX):=Zkf T
 have c_want_width:Cal P w K mg base CX0 2 "want_width" ["base", "names"] [] (spV K S_ww NX):=ZfN T
 have c_letters_for:Cal P w K mg base CX0 1 "letters_for" ["base", "names"] [] (spV K Zgt NX):=Zbm T
 have c_codes_within:Cal P w K mg base CX0 4 "codes_within" ["base", "names", "part"] [] (spV K S_cw NX):=Zcy T
 have c_least_met:Cal P w K mg base CX0 7 "least_met" ["start", "letters", "lead", "sign", "most"] [] (spF K (Zkd P w K mg base dP) Zg5):=ZdK T B hTs KEnc.pair (λa b e=>ZoI e) λx=>rfl
 refine valRMF (k:=7) T0 Zbo (λθ cs ⟨_,e⟩=>by rw[e];rfl) (λθ f A outer s H E hr=>?_)
 refine⟨_,(Zac (Zal (i:=6) Zbo.nd rfl (Or.inl rfl) (Zai (c_rising.mono (by decide)) hr rfl pass0 (Zaa (ZaG (Zbi (K:=K) rfl) (pv 2) (pv 4)) Zab)))
   (Zac (Za9 (Zai (c_want_width.mono (by decide)) hr rfl pass0 (Zaa (pv 0) (Zaa (pv 6) Zab))))
   (Zac (Zal (i:=7) Zbo.nd rfl (Or.inr rfl) (Zai (c_codes_within.mono (by decide)) hr rfl pass0 (Zaa (pv 0) (Zaa (pv 6) (Zaa (pv 2) Zab)))))
   (Zac (Zal (i:=8) Zbo.nd rfl (Or.inr rfl) (Zai (c_codes_within.mono (by decide)) hr rfl pass0 (Zaa (pv 0) (Zaa (pv 6) (Zaa (pv 4) Zab)))))
   (Zac (Zdh (name := "lead") (qual := "paired.<locals>.lead") (params:=defArgs ZaJ) (body:=defBody ZaJ) (scope:=defScope ZaJ) (P:=Zbc) (i:=9) Zbo.nd rfl (Or.inl rfl) rfl rfl rfl rfl rfl T0.tab ZeA B)
   (Zac (Zdh (name := "pair_sign") (qual := "paired.<locals>.pair_sign") (params:=defArgs Zar) (body:=defBody Zar) (scope:=defScope Zar) (P:=Zbc) (i:=10) Zbo.nd rfl (Or.inl rfl) rfl rfl rfl rfl rfl T0.tab Zc0 B)
   (Zaf (Zap (ZbM (Zaa (pv 0) (Zaa (pv 6) (Zaa (ZcT (c_least_met.mono (by decide)) hr rfl (pass0L (E:=E0)) (Zaa (ZbM (Zaa Zae (Zaa Zae Zab))) (Zaa (Zai (c_letters_for.mono (by decide)) hr rfl pass0 (Zaa (pv 0) (Zaa (pv 6) Zab))) (Zaa (pv 9) (Zaa (pv 10) (Zaa (ZeO T.g_MOST_ROOMS rfl) Zab)))))) Zab)))))))))))),?_⟩
 rintro cs ⟨h,rfl⟩
 obtain⟨b,ns,MA,MB,g⟩:=θ
 replace h:PrOk b ns MA MB g:=h
 have hb:=h.hb
 have hl:=h.s.l
 have hp:=ZcH hb hl
 have hcw:CwOk b ns ns:=⟨hb,hl,hl,λc hc=>hc⟩
 have hw:=ZoH hb h.s
 show Sv K _ _ _ [some (.d (.int b)),some (.d (dM MA)),some (.d (.tuple (ns.map dS))),some (.d (dM MB)),some (.d (.tuple (ns.map dS))),some (.obj (CloOk P w K mg base CX0 1 (spR K PreG (PostG g) NP))),none,none,none,none,none] _
 walk_at "vm"
 refine ZpC (ds:=ns.map dS) (es:=ns.map dS) rfl rfl (Kp.flat (ZaW (λ_=>rfl) ns)) (Kp.flat (ZaW (λ_=>rfl) ns)) (by rw[List.length_map];omega) ?_
 rw[<- List.map_append]
 walk_at "vm"
 refine ZaR (by walk_at "nrs") ⟨ns,rfl,h.s,rfl⟩ (Got.own (by show noLst (.tuple (ns.map dS))=true;simp only[noLst];exact ZaW (λ_=>rfl) ns)) ?_
 walk_at "vm"
 refine ZaR (by walk_at "nrs") ⟨b,ns,rfl,hb,hl,rfl⟩ (Got.own rfl) ?_
 walk_at "vm"
 refine Zkb hcw ?_
 rw[hw]
 refine v_sD (Zbk _) ?_
 walk_at "vm"
 refine Zkb hcw ?_
 rw[hw]
 refine v_sD (Zbk _) ?_
 have ok:=ZlO h
 have la:=h.la
 have lb:=h.lb
 generalize hL:(b ^ ns.length).toNat=Lq at ok ⊢
 walk_at "vm"
 refine Zdi (hTs (Zbc,Zei) (by simp[ts0])) (by decide +kernel) (by show 9<11;decide) ?_
 show Sv K _ _ _ [some (.d (.int b)),some (.d (dM MA)),some (.d (.tuple (ns.map dS))),some (.d (dM MB)),some (.d (.tuple (ns.map dS))),some (.obj (CloOk P w K mg base CX0 1 (spR K PreG (PostG g) NP))),some (.d (.tuple (ns.map dS))),some (.d (dI (rgI Lq))),some (.d (dI (rgI Lq))),some (.obj _),none] _
 walk_at "vm"
 refine Zdi (hTs (Zbc,Zei) (by simp[ts0])) (by decide +kernel) (by show 10<11;decide) ?_
 show Sv K _ _ _ [some (.d (.int b)),some (.d (dM MA)),some (.d (.tuple (ns.map dS))),some (.d (dM MB)),some (.d (.tuple (ns.map dS))),some (.obj (CloOk P w K mg base CX0 1 (spR K PreG (PostG g) NP))),some (.d (.tuple (ns.map dS))),some (.d (dI (rgI Lq))),some (.d (dI (rgI Lq))),some (.obj _),some (.obj _)] _
 walk_at "vm"
 refine ZbC ?_
 walk_at "vm"
 refine ZcU ?_
 walk_at "vm"
 refine ZbC ?_
 walk_at "vm"
 refine⟨[.d (.int 0),.d (.int 0)],.cons rfl (.cons rfl .nil),by show 2<=1000;decide,?_⟩
 walk_at "vm"
 refine ZaR (by walk_at "nrs") ⟨b,ns,rfl,hb,hl,rfl⟩ (Got.own rfl) ?_
 rw[show b ^ ns.length=((Lq:Nat):Int) by omega]
 walk_at "vm"
 refine⟨(thP MA MB Lq,sgP g MA MB),[.d (dP (0,0)),.d (.int Lq),.obj (CloOk P w K mg base CX0 2 (spR K (PreL dP (thP MA MB Lq)) (PostL dP (thP MA MB Lq)) NP)),.obj (CloOk P w K mg base CX0 2 (spR K (PreS dP (thP MA MB Lq)) (PostS dP (sgP g MA MB)) NP)),.d (.int 100)],
  .cons (.d NR.av rfl) (.cons (.d NR.av rfl) (.cons (.o (λv G1 G2 m h=>h.same m) λH0 σ ts as H1 H2 v s L hm=>?lead) (.cons (.o (λv G1 G2 m h=>h.same m) λH0 σ ts as H1 H2 v s L hm=>?sign) (.cons (.d NR.av rfl) .nil)))),⟨⟨ok,rfl⟩,⟨by show 1<=Lq;omega,by show Lq<=64;omega,by show (prodI _ _).length<=100;rw[Zet];exact h.n,λp hp=>?_⟩⟩,λd ⟨N,hN,ec⟩=>?_⟩
 case lead =>
  refine Zdj (k:=1) Zez Zed Zbo.nofree (λ_=>rfl) (λ_ _ _ _ _ s us hl=>by obtain⟨a,b,rfl⟩:=len2 hl;exact .of_eq rfl) (λcs ⟨x,l,e,_⟩=>by rw[e];rfl) (λcs ⟨x,l,e,_⟩=>by rw[e];rfl) hm L s λcl f c A outer s H E hr=>?_
  refine⟨_,(Zaf (Zap (ZbM (Zaa (Zao (Zag (K:=K) rfl hr.units) (Zao (Zag (K:=K) rfl hr.units) (Zao (Zag (K:=K) rfl hr.units) (pv 2) Zae (λ_ _=>rfl)) (Zao (Zag (K:=K) rfl hr.units) (pv 0) Zae (λ_ _=>rfl)) (λ_ _=>rfl)) (Zao (Zag (K:=K) rfl hr.units) (pv 3) (pv 1) (λ_ _=>rfl)) (λ_ _=>rfl)) (Zaa (Zao (Zag (K:=K) rfl hr.units) (Zao (Zag (K:=K) rfl hr.units) (Zao (Zag (K:=K) rfl hr.units) (pv 4) Zae (λ_ _=>rfl)) (Zao (Zag (K:=K) rfl hr.units) (pv 0) Zae (λ_ _=>rfl)) (λ_ _=>rfl)) (Zao (Zag (K:=K) rfl hr.units) (pv 5) (pv 1) (λ_ _=>rfl)) (λ_ _=>rfl)) Zab))))),?_⟩
  rintro cs ⟨x,l,rfl,hx,hl⟩
  have hx:=ZbJ.mp (show x∈prodI MA.rows.length MB.rows.length from hx)
  have hl:l<Lq:=hl
  obtain⟨x1,x2⟩:=x
  show Sv K _ _ _ [some (.d (dP (x1,x2))),some (.d (.int l)),some (.d (dM MA)),some (.d (dI (rgI Lq))),some (.d (dM MB)),some (.d (dI (rgI Lq)))] _
  have hi:atI ((rgI Lq).map PyData.int) (l:Int)=some (.int l):=by
   rw[ZdW (by omega) (by simp[rgI];omega),Int.toNat_natCast]
   simp[rgI,List.getD_eq_getElem?_getD,hl]
  have ha:=(h.pa.row _ (Zaq (d:=[]) (show x1.toNat<MA.rows.length by omega))).1
  have hb2:=(h.pb.row _ (Zaq (d:=[]) (show x2.toNat<MB.rows.length by omega))).1
  walk_at "vm"
  refine ZbC ?_
  walk_at "vm"
  refine ix_T rfl (ZfB hx.1.1 hx.1.2) Item.d ?_
  walk_at "vm"
  refine ix_L rfl hi (Item.flat rfl) ?_
  refine ix_T rfl (Zb7 (by omega) (by rw[ha];show (l:Int)<((ltr MA:Nat):Int);omega)) Item.d ?_
  walk_at "vm"
  refine ix_T rfl (ZfB hx.2.1 hx.2.2) Item.d ?_
  walk_at "vm"
  refine ix_L rfl hi (Item.flat rfl) ?_
  refine ix_T rfl (Zb7 (by omega) (by rw[hb2];show (l:Int)<((ltr MB:Nat):Int);omega)) Item.d ?_
  walk_at "vm"
  exact⟨[.d (.int (stp MA.rows x1 l)),.d (.int (stp MB.rows x2 l))],.cons rfl (.cons rfl .nil),by show 2<=1000;decide,_,ZaZ rfl,(x1,x2),l,rfl,rfl⟩
 case sign =>
  refine Zdj (k:=1) ZcZ ZcG Zbo.nofree (λ_=>rfl) (λ_ _ _ _ _ s us hl=>by obtain⟨a,rfl⟩:=len1 hl;exact .of_eq rfl) (λcs ⟨x,e,_⟩=>by rw[e];rfl) (λcs ⟨x,e,_⟩=>by rw[e];rfl) hm L s λcl f c A outer s H E hr=>?_
  refine⟨_,(Zaf (Zap (Zeb (CX:=CX0) (P:=P) (w:=w) (K:=K) (mg:=mg) (base:=base) (i:=1) (k:=1) rfl rfl rfl rfl rfl (hr.mono (by decide)) pass0 (Zaa (Zao (Zag (K:=K) rfl hr.units) (Zao (Zag (K:=K) rfl hr.units) (pv 2) Zae (λ_ _=>rfl)) (Zao (Zag (K:=K) rfl hr.units) (pv 0) Zae (λ_ _=>rfl)) (λ_ _=>rfl)) (Zaa (Zao (Zag (K:=K) rfl hr.units) (Zao (Zag (K:=K) rfl hr.units) (pv 3) Zae (λ_ _=>rfl)) (Zao (Zag (K:=K) rfl hr.units) (pv 0) Zae (λ_ _=>rfl)) (λ_ _=>rfl)) Zab))))),?_⟩
  rintro cs ⟨x,rfl,hx⟩
  have hx:=ZbJ.mp (show x∈prodI MA.rows.length MB.rows.length from hx)
  obtain⟨x1,x2⟩:=x
  show Sv K _ _ _ [some (.d (dP (x1,x2))),some (.obj (CloOk P w K mg base CX0 1 (spR K PreG (PostG g) NP))),some (.d (dM MA)),some (.d (dM MB))] _
  walk_at "vm"
  refine Zmz (i:=1) rfl ?_
  walk_at "vm"
  refine ix_T rfl (Zb7 hx.1.1 (by rw[h.pa.s];exact hx.1.2)) Item.d ?_
  walk_at "vm"
  refine ix_T rfl (Zb7 hx.2.1 (by rw[h.pb.s];exact hx.2.2)) Item.d ?_
  walk_at "vm"
  refine⟨[.d (.int (MA.signs.getD x1.toNat 0)),.d (.int (MB.signs.getD x2.toNat 0))],.cons (.d NR.av rfl) (.cons (.d NR.av rfl) .nil),⟨_,_,rfl⟩,λc ⟨y1,y2,ee,ec⟩=>?_,λ_ z=>z.elim⟩
  simp only[List.append_nil,List.cons.injEq,AV.d.injEq,PyData.int.injEq,and_true] at ee
  obtain⟨rfl,rfl⟩:=ee
  subst ec
  exact⟨_,Got.own rfl,_,ZaZ rfl,(x1,x2),rfl,rfl⟩
 ·have hp:=ZbJ.mp hp
  exact h.g9 _ (Zaq (by rw[h.pa.s];omega)) _ (Zaq (by rw[h.pb.s];omega))
 subst ec
 refine⟨rfl,_,Got.own (Zct _),?_⟩
 walk_at "vm"
 exact⟨[.d (.int b),.d (.tuple (ns.map dS)),.d (dM N)],.cons rfl (.cons rfl (.cons rfl .nil)),by show 3<=1000;decide,_,ZaZ rfl,N,by rw[<- hL] at hN;exact hN,rfl⟩
def Zkh(P:Program)(w:World)(K:W.Frag)(mg:Str->Option Value)(base:Heap)(i:PrIx)(cs:List AV):Prop :=
 i.Ok/\cs=[.d (relD i.b i.ns i.A),.d (relD i.b i.ns i.B),.obj (CloOk P w K mg base CX0 1 (spR K PreG (PostG i.g) NP))]
theorem Zgw(T:Txt K mg)(B:base.BuiltinsAt mg mainGlobals)(hTs:∀ p∈ts0,p∈Tabs.ts):Cal P w K mg base CX0 9 "joined" ["one", "other", "sign"] [] (spF K (Zkh P w K mg base) Zeu):=by
 have c_paired:Cal P w K mg base CX0 8 "paired" ["base", "one", "one_names", "other", "other_names", "sign"] [] (spF K (ZlP P w K mg base) Zeu):=Zkg T B hTs
 refine valRF T.x_joined ZjI (λθ cs ⟨_,e⟩=>by rw[e];rfl) (λθ f cdv A outer s H E hr=>?_) [] (by simp)
 refine⟨_,(Zac (Zdv (ZaA (Zcl (K:=K) rfl hr.units) (Zao (Zag (K:=K) rfl hr.units) (pv 0) Zae (λ_ _=>rfl)) (Zao (Zag (K:=K) rfl hr.units) (pv 1) Zae (λ_ _=>rfl)) (nomark _))
    (Zaf ZdQ)
    ZaY)
   (Zaf (Zap (Zai (c_paired.mono (by decide)) hr rfl pass0 (Zaa (Zao (Zag (K:=K) rfl hr.units) (pv 0) Zae (λ_ _=>rfl)) (Zaa (Zao (Zag (K:=K) rfl hr.units) (pv 0) Zae (λ_ _=>rfl)) (Zaa (Zao (Zag (K:=K) rfl hr.units) (pv 0) Zae (λ_ _=>rfl)) (Zaa (Zao (Zag (K:=K) rfl hr.units) (pv 1) Zae (λ_ _=>rfl)) (Zaa (Zao (Zag (K:=K) rfl hr.units) (pv 1) Zae (λ_ _=>rfl)) (Zaa (pv 2) Zab)))))))))),?_⟩
 rintro cs ⟨h,rfl⟩
 show Sv K _ _ _ [some (.d (relD θ.b θ.ns θ.A)),some (.d (relD θ.b θ.ns θ.B)),some (.obj (CloOk P w K mg base CX0 1 (spR K PreG (PostG θ.g) NP)))] _
 walk_at "vm"
 refine iteNS rfl ?_
 walk_at "vm"
 refine Zjn ?_
 walk_at "vm"
 refine⟨θ,[.d (.int θ.b),.d (dM θ.A),.d (.tuple (θ.ns.map dS)),.d (dM θ.B),.d (.tuple (θ.ns.map dS)),.obj _],.cons (.d NR.av rfl) (.cons (.d NR.av rfl) (.cons (.d NR.av rfl) (.cons (.d NR.av rfl) (.cons (.d NR.av rfl) (.cons .o .nil))))),⟨h,rfl⟩,λc ⟨N,hN,ec⟩=>?_,λ_ z=>z.elim⟩
 subst ec
 exact⟨_,Got.own (Zbd _ _ _),_,ZaZ rfl,N,hN,rfl⟩
def gMin(x y:Int):Int:=if y<x then y else x
def gMax(x y:Int):Int:=if y > x then y else x
def Zki(g:Int->Int->Int)(cs:List AV):Prop:=∃ (b:Int) (ns:List OkS) (A B:Mach),cs=[.d (relD b ns A),.d (relD b ns B)]/\PrOk b ns A B g
def Zgx(g:Int->Int->Int)(cs:List AV)(d:AV):Prop:=∃ (b:Int) (ns:List OkS) (A B N:Mach),cs=[.d (relD b ns A),.d (relD b ns B)]/\LmOut (thP A B (b ^ ns.length).toNat) (sgP g A B) N/\d=.d (relD b ns N)
theorem Zm6(T:Txt K mg)(B:base.BuiltinsAt mg mainGlobals)(hTs:∀ p∈ts0,p∈Tabs.ts):Cal P w K mg base CX0 10 "both" ["one", "other"] [] (spR K (Zki gMin) (Zgx gMin) NP):=by
 obtain⟨c0,T0⟩:=T.x_both
 have c_joined:Cal P w K mg base CX0 9 "joined" ["one", "other", "sign"] [] (spF K (Zkh P w K mg base) Zeu):=Zgw T B hTs
 refine valRM (k:=9) T0 ZgQ (λcs ⟨_,_,_,_,e,_⟩=>by rw[e];rfl) (λf A outer s H E hr=>?_)
 refine⟨_,(Zac (Zdh (name := "sign") (qual := "both.<locals>.sign") (params:=defArgs ZaU) (body:=defBody ZaU) (scope:=defScope ZaU) (P:=Zc5) (i:=2) ZgQ.nd rfl (Or.inl rfl) rfl rfl rfl rfl rfl T0.tab Zgm B)
   (Zaf (Zap (ZcT (c_joined.mono (by decide)) hr rfl (pass0L (E:=E0)) (Zaa (pv 0) (Zaa (pv 1) (Zaa (pv 2) Zab))))))),?_⟩
 rintro cs ⟨b,ns,MA,MB,rfl,h⟩
 show Sv K _ _ _ [some (.d (relD b ns MA)),some (.d (relD b ns MB)),none] _
 walk_at "vm"
 refine Zdi (hTs (Zc5,ZjK) (by simp[ts0])) (by decide +kernel) (by show 2<3;decide) ?_
 show Sv K _ _ _ [some (.d (relD b ns MA)),some (.d (relD b ns MB)),some (.obj _)] _
 walk_at "vm"
 refine ZcU ?_
 walk_at "vm"
 refine⟨⟨b,ns,MA,MB,gMin⟩,[.d (relD b ns MA),.d (relD b ns MB),.obj (CloOk P w K mg base CX0 1 (spR K PreG (PostG gMin) NP))],.cons (.d NR.av rfl) (.cons (.d NR.av rfl) (.cons (.o (λv G1 G2 m h=>h.same m) λH0 σ ts as H1 H2 v s L hm=>?sign) .nil)),⟨h,rfl⟩,λd ⟨N,hN,ec⟩=>?_⟩
 case sign =>
  refine Zdj (k:=0+0) Zgl ZfA ZgQ.nofree (λ_=>rfl) (λ_ _ _ _ _ s us hl=>by obtain⟨a,b,rfl⟩:=len2 hl;exact .of_eq rfl) (λcs ⟨x,y,e⟩=>by rw[e];rfl) (λcs ⟨x,y,e⟩=>by rw[e];rfl) hm L s λcl f c A outer s H E hr=>?_
  refine⟨_,(Zaf (Zap (Zaz (ZiO rfl) rfl T.n_min PyProof.Rows.boot_min (Zaa (pv 0) (Zaa (pv 1) Zab))))),?_⟩
  rintro cs ⟨x,y,rfl⟩
  show Sv K _ _ _ [some (.d (.int x)),some (.d (.int y))] _
  walk_at "vs"
  refine ZmF ?_
  exact⟨_,ZaZ rfl,x,y,rfl,rfl⟩
 subst ec
 exact⟨rfl,_,Got.own (Zbd _ _ _),_,ZaZ rfl,b,ns,MA,MB,N,rfl,hN,rfl⟩
theorem Zkj(T:Txt K mg)(B:base.BuiltinsAt mg mainGlobals)(hTs:∀ p∈ts0,p∈Tabs.ts):Cal P w K mg base CX0 10 "either" ["one", "other"] [] (spR K (Zki gMax) (Zgx gMax) NP):=by
 obtain⟨c0,T0⟩:=T.x_either
 have c_joined:Cal P w K mg base CX0 9 "joined" ["one", "other", "sign"] [] (spF K (Zkh P w K mg base) Zeu):=Zgw T B hTs
 refine valRM (k:=9) T0 Zeg (λcs ⟨_,_,_,_,e,_⟩=>by rw[e];rfl) (λf A outer s H E hr=>?_)
 refine⟨_,(Zac (Zdh (name := "sign") (qual := "either.<locals>.sign") (params:=defArgs ZaK) (body:=defBody ZaK) (scope:=defScope ZaK) (P:=ZbH) (i:=2) Zeg.nd rfl (Or.inl rfl) rfl rfl rfl rfl rfl T0.tab ZeD B)
   (Zaf (Zap (ZcT (c_joined.mono (by decide)) hr rfl (pass0L (E:=E0)) (Zaa (pv 0) (Zaa (pv 1) (Zaa (pv 2) Zab))))))),?_⟩
 rintro cs ⟨b,ns,MA,MB,rfl,h⟩
 show Sv K _ _ _ [some (.d (relD b ns MA)),some (.d (relD b ns MB)),none] _
 walk_at "vm"
 refine Zdi (hTs (ZbH,Zgn) (by simp[ts0])) (by decide +kernel) (by show 2<3;decide) ?_
 show Sv K _ _ _ [some (.d (relD b ns MA)),some (.d (relD b ns MB)),some (.obj _)] _
 walk_at "vm"
 refine ZcU ?_
 walk_at "vm"
 refine⟨⟨b,ns,MA,MB,gMax⟩,[.d (relD b ns MA),.d (relD b ns MB),.obj (CloOk P w K mg base CX0 1 (spR K PreG (PostG gMax) NP))],.cons (.d NR.av rfl) (.cons (.d NR.av rfl) (.cons (.o (λv G1 G2 m h=>h.same m) λH0 σ ts as H1 H2 v s L hm=>?sign) .nil)),⟨h,rfl⟩,λd ⟨N,hN,ec⟩=>?_⟩
 case sign =>
  refine Zdj (k:=0+0) ZeC Zeh Zeg.nofree (λ_=>rfl) (λ_ _ _ _ _ s us hl=>by obtain⟨a,b,rfl⟩:=len2 hl;exact .of_eq rfl) (λcs ⟨x,y,e⟩=>by rw[e];rfl) (λcs ⟨x,y,e⟩=>by rw[e];rfl) hm L s λcl f c A outer s H E hr=>?_
  refine⟨_,(Zaf (Zap (Zaz (ZiN rfl) rfl T.n_max PyProof.Rows.boot_max (Zaa (pv 0) (Zaa (pv 1) Zab))))),?_⟩
  rintro cs ⟨x,y,rfl⟩
  show Sv K _ _ _ [some (.d (.int x)),some (.d (.int y))] _
  walk_at "vs"
  refine ZmG ?_
  exact⟨_,ZaZ rfl,x,y,rfl,rfl⟩
 subst ec
 exact⟨rfl,_,Got.own (Zbd _ _ _),_,ZaZ rfl,b,ns,MA,MB,N,rfl,hN,rfl⟩
theorem IsL.self{N:Mach}(h:IsL N):LotsM N (stA N)/\Rb N (stA N) (stA N)/\outM N (stA N) (stA N)=N:=by
 obtain⟨A,R,G,hL,hB,rfl⟩:=h
 have e:stA (outM A R G)=rgI G.length:=by show rgI (outM A R G).rows.length=_;rw[hB.len]
 obtain⟨R',hL'⟩:=LotsM.any hB.parts
 have eR:=hL.id hB hL'
 have hs:=hB.self
 have hb2:Bfs (gR (outM A R G) (stA (outM A R G))) (ltr (outM A R G)) [0] 0 (stA (outM A R G)):=by rw[hB.lt,e] ;rw[e] at hs;exact hs
 refine⟨by rw[e,<- eR];exact hL',⟨hB.parts,Zom _,hb2,?_,λx hx=>hx⟩,hB.again hb2⟩
 exact (Zg4 _).imp λh e=>by omega
theorem ZoJ{N:Mach}(hp:Parts 1 64 N){w:List Int}(hw:Dgb (bs N) w):sgw N w∈N.signs:=by
 have:=hp.rm _ w rfl hw
 exact Zaq (by rw[hp.s];omega)
structure Rl(b:Int)(ns:List OkS)(N:Mach):Prop where
 hb:2<=b/\b<=5
 s:SrtOk ns
 p:Parts 1 64 N
 lt:((ltr N:Nat):Int)=b ^ ns.length
 z:stp N.rows 0 0=0
 il:IsL N
 b1:∀ x∈N.signs,x=0\/x=1
section
variable {b:Int}{ns:List OkS}{N N' A B:Mach}{c:OkS}
theorem Rl.v(h:Rl b ns N){w:List Int}(hw:Dgb (b ^ ns.length) w):sgw N w=0\/sgw N w=1:=h.b1 _ (ZoJ h.p (by show Dgb ((ltr N:Nat):Int) w;rw[h.lt];exact hw))
theorem Ziz(h:Rl b ns N)(h':Rl b ns N')(e:∀ w,Dgb (b ^ ns.length) w->(sgw N w=1↔sgw N' w=1)):N=N':=by
 have hl:=h.lt
 have hl':=h'.lt
 refine Zlj h.il h'.il (by omega) λw hw=>?_
 have hw:Dgb (b ^ ns.length) w:=by rw[<- hl];exact hw
 have e:=e w hw
 rcases h.v hw with a|a<;>rcases h'.v hw with c|c
 ·rw[a,c]
 ·rw[e.mpr c] at a;omega
 ·rw[e.mp a] at c;omega
 ·rw[a,c]
theorem ZpT(hN:∀ x∈N.signs,x=0\/x=1):noM (noM N)=N:=by
 obtain⟨rows,signs⟩:=N
 unfold noM
 congr 1
 rw[List.map_map]
 exact (List.map_congr_left (g:=id) λ(x:Int) _=>show (1:Int)-(1-x)=x by omega).trans (List.map_id _)
theorem Zln{i:Nat}(h:i<N.signs.length):(noM N).signs.getD i 0=1-N.signs.getD i 0:=by
 show (N.signs.map _).getD i 0=_
 rw[List.getD_eq_getElem?_getD,List.getElem?_map,List.getElem?_eq_getElem h,List.getD_eq_getElem?_getD,List.getElem?_eq_getElem h]
 rfl
theorem Zm7(h:Rl b ns N):Rl b ns (noM N)/\∀ w,Dgb (b ^ ns.length) w->sgw (noM N) w=1-sgw N w:=by
 have hb1:∀ x∈(noM N).signs,x=0\/x=1:=λx hx=>by
  obtain⟨y,hy,rfl⟩:=List.mem_map.mp (show x∈N.signs.map _ from hx)
  rcases h.b1 y hy with e|e<;>rw[e]<;>simp
 have hs:=h.p.s
 have hp:Parts 1 64 (noM N):=⟨h.p.n0,h.p.n1,by show (N.signs.map _).length=_;rw[List.length_map];exact hs,h.p.row,h.p.l0,h.p.l1,λx hx=>by rcases hb1 x hx with e|e<;>rw[e]<;>decide⟩
 obtain⟨i1,i2,i3⟩:=h.il.self
 refine⟨⟨h.hb,h.s,hp,h.lt,h.z,⟨noM N,stA N,stA N,?_,⟨hp,⟨i2.sk.len,i2.sk.all⟩,i2.bf,i2.nd,i2.u⟩,?_⟩,hb1⟩,λw hw=>?_⟩
 ·obtain⟨al,ha,lo⟩:=i1.ex
  refine⟨al,λi j hi hj=>?_,lo⟩
  rw[ha i j hi hj]
  have e1:tl (noM N).signs i=1-tl N.signs i:=Zln (by rw[hs];exact hi)
  have e2:tl (noM N).signs j=1-tl N.signs j:=Zln (by rw[hs];exact hj)
  rw[e1,e2]
  omega
 ·have e1:(outM N (stA N) (stA N)).rows=N.rows:=congrArg Mach.rows i3
  have e2:(stA N).map (sgR N)=N.signs:=congrArg Mach.signs i3
  have e3:(stA N).map (sgR (noM N))=(noM N).signs:=by
   show _=N.signs.map λs=>1-s
   conv=>rhs;rw[<- e2,List.map_map]
   refine List.map_congr_left λx hx=>?_
   have:=Zay.mp hx
   exact Zln (by rw[hs];omega)
  show noM N=Mach.mk (outM N (stA N) (stA N)).rows ((stA N).map (sgR (noM N)))
  rw[e1,e3]
  rfl
 ·have:=h.p.rm _ w rfl (by show Dgb ((ltr N:Nat):Int) w;rw[h.lt];exact hw)
  exact Zln (N:=N) (i:=(rm N.rows w).toNat) (by rw[hs];omega)
theorem ZoK(hb:2<=b/\b<=5)(hs:SrtOk ns)(hc:c∈ns):Ph (phi b ns (rst ns c)) (b ^ ns.length).toNat (b ^ (rst ns c).length).toNat:=by
 have h1:=ZcH hb hs.l
 have h2:=ZcH hb (Zc7 (c:=c) hs.l)
 have key:(∀ k:Int,0<=k/\k<b ^ ns.length->0<=phi b ns (rst ns c) k/\phi b ns (rst ns c) k<b ^ (rst ns c).length)/\phi b ns (rst ns c) 0=0/\∀ f:Nat,(f:Int)<b ^ (rst ns c).length->∃ k:Int,(0<=k/\k<b ^ ns.length)/\phi b ns (rst ns c) k=f:=by
  clear h1 h2
  have hsq:=Zlh hb
  rcases len012 hs.l with rfl|⟨a,rfl⟩|⟨a,d,rfl⟩
  ·cases hc
  ·have e:rst [a] c=[]:=by rw[List.mem_singleton.mp hc];unfold rst;rw[List.filter_cons_of_neg (by simp)];rfl
   rw[e]
   show (∀ k:Int,0<=k/\k<b ^ 1->0<=(0:Int)/\(0:Int)<b ^ 0)/\(0:Int)=0/\∀ f:Nat,(f:Int)<b ^ 0->∃ k:Int,(0<=k/\k<b ^ 1)/\(0:Int)=f
   rw[pw0,pw1]
   exact⟨λ_ _=>by omega,rfl,λf hf=>⟨0,by omega,by omega⟩⟩
  ·have hne:a≠d:=λe=>by subst e;have:=hs.nd;simp at this
   have hk2:∀ k:Int,0<=k/\k<b*b->colD b 2 k=[k / b,k%b]:=λk hk=>col2 hb hk
   have d0:∀ k:Int,0<=k/\k<b*b->0<=k / b/\k / b<b:=λk hk=>⟨Int.ediv_nonneg hk.1 (by omega),Int.ediv_lt_of_lt_mul (by omega) hk.2⟩
   have m0:∀ k:Int,0<=k%b/\k%b<b:=λk=>⟨Int.emod_nonneg _ (by omega),Int.emod_lt_of_pos _ (by omega)⟩
   have hcc:c=a\/c=d:=by simpa using hc
   rcases hcc with rfl|rfl
   ·have e:rst [c,d] c=[d]:=by unfold rst;rw[List.filter_cons_of_neg (by simp),List.filter_cons_of_pos (by simpa using Ne.symm hne)];rfl
    have ep:∀ k:Int,0<=k/\k<b*b->phi b [c,d] [d] k=k%b:=λk hk=>by
     show num b [(colD b 2 k).getD (idxD [c,d] d) 0]=_
     rw[ZlK hne,hk2 k hk,ZfJ];rfl
    rw[e]
    show (∀ k:Int,0<=k/\k<b ^ 2->0<=phi b [c,d] [d] k/\phi b [c,d] [d] k<b ^ 1)/\phi b [c,d] [d] 0=0/\∀ f:Nat,(f:Int)<b ^ 1->∃ k:Int,(0<=k/\k<b ^ 2)/\phi b [c,d] [d] k=f
    rw[pw1,pw2]
    refine⟨λk hk=>by rw[ep k hk];exact m0 k,by rw[ep 0 (by omega)];exact Int.zero_emod _,λf hf=>⟨f,?_,?_⟩⟩
    ·have:b*1<=b*b:=Int.mul_le_mul_of_nonneg_left (by omega) (by omega)
     omega
    ·have:b*1<=b*b:=Int.mul_le_mul_of_nonneg_left (by omega) (by omega)
     rw[ep _ (by omega)]
     exact Int.emod_eq_of_lt (by omega) hf
   ·have e:rst [a,c] c=[a]:=by unfold rst;rw[List.filter_cons_of_pos (by simpa using hne),List.filter_cons_of_neg (by simp)];rfl
    have ep:∀ k:Int,0<=k/\k<b*b->phi b [a,c] [a] k=k / b:=λk hk=>by
     show num b [(colD b 2 k).getD (idxD [a,c] a) 0]=_
     rw[ZlJ,hk2 k hk,ZfJ];rfl
    rw[e]
    show (∀ k:Int,0<=k/\k<b ^ 2->0<=phi b [a,c] [a] k/\phi b [a,c] [a] k<b ^ 1)/\phi b [a,c] [a] 0=0/\∀ f:Nat,(f:Int)<b ^ 1->∃ k:Int,(0<=k/\k<b ^ 2)/\phi b [a,c] [a] k=f
    rw[pw1,pw2]
    refine⟨λk hk=>by rw[ep k hk];exact d0 k hk,by rw[ep 0 (by omega)];exact Int.zero_ediv _,λf hf=>⟨f*b,?_,?_⟩⟩
    ·exact⟨Int.mul_nonneg (by omega) (by omega),Int.mul_lt_mul_of_pos_right hf (by omega)⟩
    ·rw[ep _ ⟨Int.mul_nonneg (by omega) (by omega),Int.mul_lt_mul_of_pos_right hf (by omega)⟩]
     exact Int.mul_ediv_cancel _ (by omega)
 obtain⟨k1,k2,k3⟩:=key
 exact⟨by omega,by omega,by omega,by omega,λk hk=>by have:=k1 k (by omega);omega,k2,λf hf=>by obtain⟨k,h3,h4⟩:=k3 f (by omega);exact⟨k,by omega,h4⟩⟩
theorem Rl.wo(h:Rl b ns N)(n6:N.rows.length<=6)(hc:c∈ns):WoC b ns c N:=by
 have hp:=ZcH h.hb h.s.l
 have hl:=h.lt
 exact⟨h.hb,h.s.l,ZoK h.hb h.s hc,h.p,n6,by omega,h.z⟩
theorem Zev(h:SrtOk ns)(hc:c∈ns):SrtOk (rst ns c):=by
 refine⟨h.nd.sublist List.filter_sublist,Zc7 h.l,λa d e=>?_⟩
 have h1:(rst ns c).length<ns.length:=by
  have:=(List.filter_sublist (l:=ns) (p:=λx=>decide (x≠c))).length_le
  refine Nat.lt_of_le_of_ne this λz=>?_
  have e2:=(List.filter_sublist (l:=ns) (p:=λx=>decide (x≠c))).eq_of_length z
  rw[<- e2] at hc
  have:=(List.mem_filter.mp hc).2
  simp at this
 have:=h.l
 rw[e] at h1
 simp at h1
 omega
theorem Zm8(h:WoC b ns c N):(thC b ns c N).g (thC b ns c N).start 0=(thC b ns c N).start:=by
 have hm:=h.m
 show ordI N.rows.length (ledL N.rows (frS N.rows (cdr _ _ 0)) (cbf _ _ 0))=frS N.rows (cdr _ _ 0)
 have hst:=(Zh0 hm).mem
 refine OnceI.one (ZhZ (hm.led hst)) ⟨(ZfL _ _).imp λh=>Int.le_of_lt h,(ZfL _ _).imp λh e=>by omega,λy=>?_⟩
 rw[ZbI]
 constructor
 ·intro hy
  obtain⟨h1,h2⟩:=Zer.mp hy
  cases h2 with
  | z=>exact⟨0,Zcz.mpr ⟨⟨Int.le_refl _,by have:=hm.ph.l0;omega⟩,hm.ph.z⟩,0,hy,hm.z.symm⟩
  | @s r k hr hk=>exact⟨k,hk,r,Zer.mpr ⟨Rch.in' hm.fr hr,hr⟩,rfl⟩
 ·rintro⟨k,hk,r,hr,rfl⟩
  have hr2:=(Zer.mp hr).2
  have:Rch N.rows (cdr (phi b ns (rst ns c)) (b ^ ns.length).toNat 0) (stp N.rows r k):=.s hr2 hk
  exact Zer.mpr ⟨Rch.in' hm.fr this,this⟩
theorem rl_q{sgf:Mach->List Int->Int}(hsg:∀ x∈allS A.rows.length,sgf A x∈A.signs)(h:Rl b ns A)(n6:A.rows.length<=6)(hc:c∈ns)(hN:LmOut (thC b ns c A) (sgf A) N):Rl b (rst ns c) N/\N.rows.length<=2 ^ A.rows.length/\∀ w,Dgb (b ^ (rst ns c).length) w->sgw N w=sgf A (runT (thC b ns c A) w)/\runT (thC b ns c A) w∈allS A.rows.length/\∀ y,y∈runT (thC b ns c A) w↔∃ u,PW (phi b ns (rst ns c)) (b ^ ns.length).toNat w u/\y=rm A.rows u:=by
 have hW:=h.wo n6 hc
 have hm:=hW.m
 have ok:=Zh0 hm
 have hp2:=ZcH h.hb (Zc7 (c:=c) h.s.l)
 obtain⟨a1,a2,a3,a4,a5,a6⟩:=ZlM hN
 have a1:ltr N=(b ^ (rst ns c).length).toNat:=a1
 refine⟨⟨h.hb,Zev h.s hc,a3,by omega,ZlN hN ok hm.ph.l0' (Zm8 hW),a2,λx hx=>?_⟩,?_,λw hw=>?_⟩
 ·obtain⟨a,ha,rfl⟩:=a6 x hx
  exact h.b1 _ (hsg a ha)
 ·refine Nat.le_trans (a5 ok) ?_
  refine Nat.le_trans (List.length_filter_le _ _) ?_
  rw[ZfK]
  simp[rgI]
 ·have hw:Dgb (((b ^ (rst ns c).length).toNat:Nat):Int) w:=by rw[Int.toNat_of_nonneg (by omega)];exact hw
  obtain⟨r1,r2⟩:=Zm4 hm w hw
  exact⟨a4 w hw,r1,λy=>(r2 y).trans (ZoA (λk hk=>(hm.ph.i k hk).1) w hw y)⟩
abbrev PWc(b:Int)(ns:List OkS)(c:OkS)(w u:List Int):Prop:=PW (phi b ns (rst ns c)) (b ^ ns.length).toNat w u
theorem Zm9(h:Rl b ns A)(n6:A.rows.length<=6)(hc:c∈ns)(hN:LmOut (thC b ns c A) (sgS A) N):Rl b (rst ns c) N/\N.rows.length<=2 ^ A.rows.length/\∀ w,Dgb (b ^ (rst ns c).length) w->(sgw N w=1↔∃ u,PWc b ns c w u/\sgw A u=1):=by
 obtain⟨h1,h2,h3⟩:=rl_q (sgf:=sgS) (λx hx=>(ZeH h.p hx).2 _ (Zeq (ZeH h.p hx).1).1) h n6 hc hN
 refine⟨h1,h2,λw hw=>?_⟩
 obtain⟨k1,k2,k3⟩:=h3 w hw
 obtain⟨s1,s2⟩:=ZeH h.p k2
 obtain⟨m1,m2⟩:=Zeq s1
 rw[k1]
 constructor
 ·intro e
  have e:mxI _=1:=e
  rw[e] at m1
  obtain⟨y,hy,ey⟩:=List.mem_map.mp m1
  obtain⟨u,hu,rfl⟩:=(k3 y).mp hy
  exact⟨u,hu,ey⟩
 ·rintro⟨u,hu,e⟩
  have:=m2 1 (List.mem_map.mpr ⟨_,(k3 _).mpr ⟨u,hu,rfl⟩,e⟩)
  rcases h.b1 _ (s2 _ m1) with z|z
  ·rw[z] at this;omega
  ·exact z
theorem Zlo(h:Rl b ns A)(n6:A.rows.length<=6)(hc:c∈ns)(hN:LmOut (thC b ns c A) (sgE A) N):Rl b (rst ns c) N/\N.rows.length<=2 ^ A.rows.length/\∀ w,Dgb (b ^ (rst ns c).length) w->(sgw N w=1↔∀ u,PWc b ns c w u->sgw A u=1):=by
 obtain⟨h1,h2,h3⟩:=rl_q (sgf:=sgE) (λx hx=>(ZeH h.p hx).2 _ (Zg7 (ZeH h.p hx).1).1) h n6 hc hN
 refine⟨h1,h2,λw hw=>?_⟩
 obtain⟨k1,k2,k3⟩:=h3 w hw
 obtain⟨s1,s2⟩:=ZeH h.p k2
 obtain⟨m1,m2⟩:=Zg7 s1
 rw[k1]
 constructor
 ·intro e u hu
  have e:mnI _=1:=e
  have hm:A.signs.getD (rm A.rows u).toNat 0∈(runT (thC b ns c A) w).map λx=>A.signs.getD x.toNat 0:=List.mem_map.mpr ⟨_,(k3 _).mpr ⟨u,hu,rfl⟩,rfl⟩
  have:=m2 _ hm
  rw[e] at this
  rcases h.b1 _ (s2 _ hm) with z|z
  ·rw[z] at this;omega
  ·exact z
 ·intro e
  obtain⟨y,hy,ey⟩:=List.mem_map.mp m1
  obtain⟨u,hu,rfl⟩:=(k3 y).mp hy
  show mnI _=1
  rw[<- ey]
  exact e u hu
theorem Rl.pr{g:Int->Int->Int}(hA:Rl b ns A)(hB:Rl b ns B)(hn:A.rows.length*B.rows.length<=100)(hg:∀ x y,(x=0\/x=1)->(y=0\/y=1)->g x y=0\/g x y=1):PrOk b ns A B g :=
 ⟨hA.hb,hA.s,hA.p,hB.p,hA.lt,hB.lt,hn,λx hx y hy=>by rcases hg x y (hA.b1 x hx) (hB.b1 y hy) with e|e<;>rw[e]<;>decide⟩
theorem Zna{g:Int->Int->Int}(hA:Rl b ns A)(hB:Rl b ns B)(hn:A.rows.length*B.rows.length<=100)(hg:∀ x y,(x=0\/x=1)->(y=0\/y=1)->g x y=0\/g x y=1)(hN:LmOut (thP A B (b ^ ns.length).toNat) (sgP g A B) N):Rl b ns N/\N.rows.length<=A.rows.length*B.rows.length/\∀ w,Dgb (b ^ ns.length) w->sgw N w=g (sgw A w) (sgw B w):=by
 have hP:=hA.pr hB hn hg
 have hp:=ZcH hA.hb hA.s.l
 have ok:=ZlO hP
 obtain⟨a1,a2,a3,a4,a5,a6⟩:=ZlM hN
 have a1:ltr N=(b ^ ns.length).toNat:=a1
 refine⟨⟨hA.hb,hA.s,a3,by omega,ZlN hN ok (by show 1<=(b ^ ns.length).toNat;omega) ?_,a2,λx hx=>?_⟩,?_,λw hw=>?_⟩
 ·show (stp A.rows 0 ((0:Nat):Int),stp B.rows 0 ((0:Nat):Int))=(0,0)
  rw[show ((0:Nat):Int)=0 from rfl,hA.z,hB.z]
 ·obtain⟨p,hp,rfl⟩:=a6 x hx
  have hp:=ZbJ.mp hp
  exact hg _ _ (hA.b1 _ (Zaq (by rw[hA.p.s];omega))) (hB.b1 _ (Zaq (by rw[hB.p.s];omega)))
 ·have:=a5 ok
  rw[show (thP A B (b ^ ns.length).toNat).U.length=_ from Zet _ _] at this
  exact this
 ·have hw:Dgb (((b ^ ns.length).toNat:Nat):Int) w:=by rw[Int.toNat_of_nonneg (by omega)];exact hw
  rw[a4 w hw,runP w hw]
  rfl
end
def ZdZ(cs:List AV):Prop:=∃ (ns:List Int) (k:Int),cs=[.d (dI ns),.d (.int k)]/\0<=k/\k<900
theorem Zkk(T:Txt K mg):Cal P w K mg base CX0 1 "_law_cell" ["_law_script", "_law_k"] [] (spR K ZdZ (λ_=>PostI 2147483629) NP):=by
 refine valR T.x_law_cell Zc2 (λcs ⟨c,k,e,_⟩=>by rw[e];rfl) (λf cdv A outer s H E hr=>?_) [] (by simp)
 refine⟨_,(Zac (Zal (i:=2) Zc2.nd rfl (Or.inl rfl) Zae)
   (Zac (Zhs (ZaA Zkv (pv 1) (Zaz (ZaC (K:=K) rfl) rfl T.n_len PySem.boot_len (Zaa (pv 0) Zab)) (nomark _))
    (Zaf (Zal (i:=2) Zc2.nd rfl (Or.inl rfl) (ZaG ZbL (Zao (Zag (K:=K) rfl hr.units) (pv 0) (pv 1) (λ_ _=>rfl)) (ZaG Znj Zae Zae))))
    ZaY)
   (Zaf (Zap (ZaG ZbL (ZaG Za4 (ZaG ZbL (ZaG (Zbi (K:=K) rfl) (ZaG Za4 (pv 2) Zae) (ZaG Za4 Zae (pv 1))) Zae) Zae) Zae))))),?_⟩
 rintro cs ⟨ns,k,rfl,h0,h1⟩
 show Sv K _ _ _ [some (.d (dI ns)),some (.d (.int k)),none] _
 walk_at "vs"
 refine ZkM (λρ=>∃ c:Int,ρ=[some (.d (dI ns)),some (.d (.int k)),some (.d (.int c))]/\0<=c/\c<10 ^ 18) ?_ ?_
 case refine_2 =>
  walk_at "vs"
  refine Zf5 rfl ?_
  rw[List.length_map]
  walk_at "vs"
  refine ite2 (λh=>?_) λh=>?_
  ·have hk:=of_decide_eq_true h
   walk_at "vs"
   refine ix_L rfl (ZdW h0 hk) (Item.flat rfl) ?_
   walk_at "vs"
   refine op_i (by decide) ?_
   walk_at "vs"
   exact⟨_,rfl,Int.emod_nonneg _ (by decide),Int.emod_lt_of_pos _ (by decide)⟩
  ·walk_at "vs"
   exact⟨0,rfl,by decide,by decide⟩
 rintro ρ ⟨c,rfl,c0,c1⟩
 walk_at "vs"
 exact⟨_,ZaZ rfl,_,rfl,Int.emod_nonneg _ (by decide),Int.emod_lt_of_pos _ (by decide)⟩
theorem ZcE{Q:TV->Prop}{X:Exc->Prop}{ns:List Int}{k:Int}(h:0<=k/\k<900)(q:∀ r:Int,0<=r->r<2147483629->Q (.av (.d (.int r)))):ClR ZdZ (λ_=>PostI 2147483629) NP [] Q X [.av (.d (dI ns)),.av (.d (.int k))] :=
 ⟨[.d (dI ns),.d (.int k)],.cons (.d NR.av rfl) (.cons (.d NR.av rfl) .nil),⟨ns,k,rfl,h.1,h.2⟩,λc ⟨r,e,h1,h2⟩=>e▸⟨_,Got.own rfl,q r h1 h2⟩,λ_ z=>z.elim⟩
def Zkl(cs:List AV):Prop:=∃ (ns:List Int) (a r l:Int),cs=[.d (dI ns),.d (.int a),.d (.int r),.d (.int l),.d (.int 1)]/\(0<=a/\a<=100)/\(1<=r/\r<=5)/\(1<=l/\l<=64)
def Zg8(cs:List AV)(c:AV):Prop:=∃ (ns:List Int) (a r l:Int) (M:Mach),cs=[.d (dI ns),.d (.int a),.d (.int r),.d (.int l),.d (.int 1)]/\Good r l 2 M/\c=.d (dM M)
theorem Zlp(T:Txt K mg):Cal P w K mg base CX0 2 "_law_drawn" ["_law_script", "_law_at", "_law_rooms", "_law_letters", "_law_last"] [] (spR K Zkl Zg8 NP):=by
 have c_law_cell:Cal P w K mg base CX0 1 "_law_cell" ["_law_script", "_law_k"] [] (spR K ZdZ (λ_=>PostI 2147483629) NP):=Zkk T
 refine valR T.x_law_drawn ZaN (λcs ⟨a,b,c,k,e,_⟩=>by rw[e];rfl) (λf cdv A outer s H E hr=>?_) [] (by simp)
 refine⟨_,(Zac (Zal (i:=5) ZaN.nd rfl (Or.inl rfl) (Zcb Zab))
   (Zac (Zal (i:=6) ZaN.nd rfl (Or.inl rfl) (Zcb Zab))
   (Zac (ZcI PassesOwn.never rfl (Zcf rfl T.n_range (Zaa (pv 2) Zab)) (Zav (i:=7) ZaN.nd rfl (Or.inl rfl))
    (Zac (Zal (i:=8) ZaN.nd rfl (Or.inl rfl) (Zai (c_law_cell.mono (by decide)) hr rfl pass0 (Zaa (pv 0) (Zaa (ZaG (Zbi (K:=K) rfl) (pv 1) (pv 7)) Zab))))
    (Zac (Zal (i:=9) ZaN.nd rfl (Or.inl rfl) (Zcb Zab))
    (Zac (ZcI PassesOwn.never rfl (Zcf rfl T.n_range (Zaa (pv 3) Zab)) (Zav (i:=10) ZaN.nd rfl (Or.inl rfl))
     (Zac (Zal (i:=11) ZaN.nd rfl (Or.inl rfl) (ZaG ZbL (ZaG Za4 (ZaG (Zbi (K:=K) rfl) (ZaG (Zbi (K:=K) rfl) (pv 8) (ZaG Za4 Zae (pv 10))) Zae) (ZaG (Zbi (K:=K) rfl) (ZaG Za4 (pv 10) (pv 10)) Zae)) Zae))
     (Zaf (Za9 (ZcK (K:=K) rfl PySem.F.plainAttrs_list PySem.F.slot_list_append PySem.F.type_list_append Za0 (pv 9) (Zaa (ZaG ZbL (ZaG Zd1 (pv 11) Zae) (pv 2)) Zab))))))
    (Zac (Za9 (ZcK (K:=K) rfl PySem.F.plainAttrs_list PySem.F.slot_list_append PySem.F.type_list_append Za0 (pv 5) (Zaa (pv 9) Zab)))
    (Zaf (Za9 (ZcK (K:=K) rfl PySem.F.plainAttrs_list PySem.F.slot_list_append PySem.F.type_list_append Za0 (pv 6) (Zaa (ZaG ZbL (ZaG Zd1 (ZaG ZbL (ZaG Za4 (ZaG (Zbi (K:=K) rfl) (ZaG ZbL (pv 8) Zae) (pv 7)) Zae) Zae) Zae) (ZaG (Zbi (K:=K) rfl) (pv 4) Zae)) Zab)))))))))
   (Zac (Zhg Zae (Zhf (Zao (Zag (K:=K) rfl hr.units) (pv 5) Zae (λ_ _=>rfl)) Zae (Zfb hr.units)))
   (Zaf (Zap (ZbM (Zaa (ZaD (ZaQ (K:=K) rfl) rfl T.n_tuple PyProof.Rows.boot_tuple (Zaa (Zbs (N:=["_law_row"]) (cap:=[none]) rfl rfl rfl (by kernel_rfl) (ZbD (K:=K) rfl (pv 5)) (λ_ _ _ _=>(Zav (i:=0) (show (["_law_row"]:List Str).Nodup from by decide +kernel) rfl (Or.inl rfl))) (λ_ _ _ _=>ZaV) (λ_ _ _ _=>(ZaD (ZaQ (K:=K) rfl) rfl T.n_tuple PyProof.Rows.boot_tuple (Zaa (pv 0) Zab)))) Zab)) (Zaa (ZaD (ZaQ (K:=K) rfl) rfl T.n_tuple PyProof.Rows.boot_tuple (Zaa (pv 6) Zab)) Zab))))))))),?_⟩
 rintro cs ⟨ns,a,r,l,rfl,ha1,hr1,hl1⟩
 show Sv K _ _ _ [some (.d (dI ns)),some (.d (.int a)),some (.d (.int r)),some (.d (.int l)),some (.d (.int 1)),none,none,none,none,none,none,none] _
 walk_at "vs"
 refine ZkL ?_
 walk_at "vs"
 refine⟨r,rfl,⟨by omega,by omega⟩,λi ρ=>∃ (rows:List (List Int)) (signs:List Int) (o1 o2 o4 o5:Option AV),ρ=[some (.d (dI ns)),some (.d (.int a)),some (.d (.int r)),some (.d (.int l)),some (.d (.int 1)),some (oL rows),some (oI signs),o1,o2,none,o4,o5]/\rows.length=i/\(∀ x∈rows,(x.length:Int)=l/\∀ y∈x,0<=y/\y<r)/\signs.length=i/\∀ x∈signs,0<=x/\x<2,⟨[],[],none,none,none,none,rfl,rfl,by simp,rfl,by simp⟩,?_,?_⟩
 ·rintro i ρ hi ⟨rows,signs,o1,o2,o4,o5,rfl,h1,h2,h3,h4⟩
  walk_at "vs"
  refine ZcE (by omega) λn hn0 hn1=>?_
  walk_at "vs"
  refine ZkL ?_
  walk_at "vs"
  refine⟨l,rfl,⟨by omega,by omega⟩,λj ρ=>∃ (row:List Int) (o4 o5:Option AV),ρ=[some (.d (dI ns)),some (.d (.int a)),some (.d (.int r)),some (.d (.int l)),some (.d (.int 1)),some (oL rows),some (oI signs),some (.d (.int i)),some (.d (.int n)),some (oI row),o4,o5]/\row.length=j/\(∀ y∈row,0<=y/\y<r),⟨[],o4,o5,rfl,rfl,by simp⟩,?_,?_⟩
  ·rintro j ρ hj ⟨row,o4,o5,rfl,g1,g2⟩
   walk_at "vs"
   refine v_ap ?hz ?_
   case hz=>rw[List.length_map];omega
   walk_at "vs"
   rw[ZgR]
   refine⟨_,_,_,rfl,by simp[g1],λy hy=>?_⟩
   rcases List.mem_append.mp hy with hy|hy
   ·exact g2 y hy
   ·rw[List.mem_singleton.mp hy]
    exact⟨Int.emod_nonneg _ (by omega),Int.emod_lt_of_pos _ (by omega)⟩
  ·rintro ρ ⟨row,o4,o5,rfl,g1,g2⟩
   walk_at "v"
   refine Zn2 (m:=9) (n:=5) rfl rfl (by decide) (by rw[List.length_map];omega) ?_
   show Sv K _ _ _ [some (.d (dI ns)),some (.d (.int a)),some (.d (.int r)),some (.d (.int l)),some (.d (.int 1)),some (AV.own (rows.map oI++[oI row])),some (oI signs),some (.d (.int i)),some (.d (.int n)),none,o4,o5] _
   rw[ZmP]
   walk_at "vs"
   refine v_ap ?hz ?_
   case hz=>rw[List.length_map];omega
   rw[ZgR]
   refine⟨rows++[row],_,some (.d (.int i)),some (.d (.int n)),o4,o5,rfl,by simp[h1],λx hx=>?_,by simp[h3],λx hx=>?_⟩
   ·rcases List.mem_append.mp hx with hx|hx
    ·exact h2 x hx
    ·rw[List.mem_singleton.mp hx]
     exact⟨by omega,g2⟩
   ·rcases List.mem_append.mp hx with hx|hx
    ·exact h4 x hx
    ·rw[List.mem_singleton.mp hx]
     exact⟨Int.emod_nonneg _ (by decide),Int.emod_lt_of_pos _ (by decide)⟩
 ·rintro ρ ⟨rows,signs,o1,o2,o4,o5,rfl,h1,h2,h3,h4⟩
  have hr0:0<rows.length:=by omega
  obtain⟨row0,rest,rfl⟩:∃ a b,rows=a::b:=by
   cases rows with
   | nil=>simp at hr0
   | cons a b=>exact⟨a,b,rfl⟩
  have hl0:0<row0.length:=by have:=(h2 row0 (.head _)).1;omega
  walk_at "vs"
  refine Zn9 ?_
  walk_at "vs"
  refine⟨0,0,row0.map λk=>.d (.int k),rfl,?_,rfl,Zn7 ⟨_,0,rfl,?_,?_⟩⟩
  ·unfold ixN;rw[List.length_map];simp
  ·unfold ixN;rw[List.length_map];simp[hl0]
  ·show Sv K _ _ _ [_,_,_,_,_,some (AV.own (((row0::rest).map oI).set 0 (.own ((row0.map λk=>.d (.int k)).set 0 (.d (.int 0)))))),_,_,_,_,_,_] _
   have ee:AV.own (((row0::rest).map oI).set 0 (.own ((row0.map λk=>.d (.int k)).set 0 (.d (.int 0)))))=oL (row0.set 0 0::rest):=by
    rw[<- List.map_set];rfl
   rw[ee]
   generalize hM:row0.set 0 0::rest=rows2
   walk_at "vs"
   refine ZbC ?_
   walk_at "vs"
   refine ZcM (α:=List Int) ?_
   walk_at "vs"
   refine⟨rows2,dI,λx=>.d (tI x),.inl ?_,NR.bor,?_,λi hi=>?_,_,Got.own (ZaH λx=>Zc6 x),?_⟩
   ·show PyData.list (AV.datas (rows2.map oI))=_
    have:=ZjL rows2
    exact this
   ·rw[<- hM];simp only[List.length_cons] at h1 ⊢;omega
   ·show Gv K _ _ [none] _
    walk_at "vs"
    refine⟨wk_0,?_⟩
    walk_at "vs"
    exact Zbt (ds:=rows2[i].map .int) rfl (.inl rfl) rfl
   walk_at "vs"
   refine Zbt (ds:=rows2.map tI) (by rw[TV.data,AV.data,Zaw]) (.inl rfl) ?_
   walk_at "vs"
   refine Zbt (ds:=signs.map .int) (Ziv signs▸rfl) (Kp.flat (ZaB _)) ?_
   walk_at "vs"
   refine⟨[.d (tR rows2),.d (tI signs)],.cons rfl (.cons rfl .nil),by simp,?_⟩
   refine⟨_,ZaZ rfl,ns,a,r,l,⟨rows2,signs⟩,rfl,⟨by omega,by omega,?_,?_,by show (signs.length:Int)=r;omega,h4,?_⟩,rfl⟩
   ·show (rows2.length:Int)=r
    rw[<- hM];simp only[List.length_cons] at h1 ⊢;omega
   ·intro x hx
    rw[<- hM] at hx
    rcases List.mem_cons.mp hx with e|hx
    ·subst e
     refine⟨by rw[List.length_set];exact (h2 row0 (.head _)).1,λy hy=>?_⟩
     rcases ZgS hy with hy|hy
     ·exact (h2 row0 (.head _)).2 y hy
     ·subst hy;omega
    ·exact h2 x (.tail _ hx)
   ·show (rows2.getD 0 []).getD 0 0=0
    rw[<- hM]
    cases row0 with
    | nil=>simp at hl0
    | cons a b=>rfl
theorem Zgy{Q:TV->Prop}{X:Exc->Prop}{ns:List Int}{a r l:Int}(h0:0<=a/\a<=100)(h1:1<=r/\r<=5)(h2:1<=l/\l<=64)(q:∀ M,Good r l 2 M->Q (.av (.d (dM M)))):ClR Zkl Zg8 NP [] Q X [.av (.d (dI ns)),.av (.d (.int a)),.av (.d (.int r)),.av (.d (.int l)),.av (.d (.int 1))] :=
 ⟨[.d (dI ns),.d (.int a),.d (.int r),.d (.int l),.d (.int 1)],.cons (.d NR.av rfl) (.cons (.d NR.av rfl) (.cons (.d NR.av rfl) (.cons (.d NR.av rfl) (.cons (.d NR.av rfl) .nil)))),⟨ns,a,r,l,rfl,h0,h1,h2⟩,λc hc=>by
  obtain⟨ns',a',r',l',M,e,hM,rfl⟩:=hc
  simp only[List.append_nil,List.cons.injEq,AV.d.injEq,PyData.int.injEq,and_true] at e
  obtain⟨_,rfl,rfl,rfl⟩:=e
  exact⟨_,Got.own (Zct M),q M hM⟩,λ_ z=>z.elim⟩
theorem Zkm{a b:OkS}(h:dS a=dS b):a=b:=Subtype.ext (PyData.str.inj h)
theorem Zd0{b b':Int}{ns ns':List OkS}{M M':Mach}(h:relD b ns M=relD b' ns' M'):b=b'/\ns=ns'/\M=M':=by
 have h:=PyData.tuple.inj h
 simp only[List.cons.injEq,and_true] at h
 exact⟨PyData.int.inj h.1,(List.map_inj_right λx y e=>Zkm e).mp (PyData.tuple.inj h.2.1),ZhK h.2.2⟩
theorem Enc.tri{α β γ:Type}{f:α->PyData}{g:β->PyData}{k:γ->PyData}{n:Nat}(E:Enc f n)(G:Enc g n)(H:Enc k n):Enc (λp:α×β×γ=>PyData.tuple [f p.1,g p.2.1,k p.2.2]) (n+1) :=
 ⟨λa b=>by
  obtain⟨a1,a2,a3⟩:=a
  obtain⟨b1,b2,b3⟩:=b
  simp[PyData.eqv,PyData.eqvAll,E.eqv,G.eqv,H.eqv],λa=>by simp[PyData.canLay0,PyData.canLayAll0,E.lay,G.lay,H.lay],λa=>by
  have h1:=E.dep a.1
  have h2:=G.dep a.2.1
  have h3:=H.dep a.2.2
  simp only[PyData.depth,PyData.depthAll]
  omega⟩
theorem encRel:Enc (λp:Int×List OkS×Mach=>relD p.1 p.2.1 p.2.2) 4:=Enc.tri (Enc.int.mono (show 0<=3 by decide)) (Enc.str.tuple.mono (show 1<=3 by decide)) Mach.enc
section
variable {Q:TV->Prop}{X:Exc->Prop}{b:Int}{ns:List OkS}{c:OkS}{M A B:Mach}
theorem ZoL{sgf:Mach->List Int->Int}(h:WoC b ns c M)(hc:c∈ns)(q:∀ N,LmOut (thC b ns c M) (sgf M) N->Q (.av (.d (relD b (rst ns c) N)))):ClR Zgv (ZdL sgf) NP [] Q X [.av (.d (relD b ns M)),.av (.d (dS c))] :=
 ⟨[.d (relD b ns M),.d (dS c)],.cons (.d NR.av rfl) (.cons (.d NR.av rfl) .nil),⟨b,ns,c,M,rfl,h.l,λ_=>h⟩,λd ⟨b',ns',c',M',e,hd⟩=>by
  simp only[List.append_nil,List.cons.injEq,and_true] at e
  obtain⟨rfl,rfl,rfl⟩:=Zd0 (AV.d.inj e.1)
  have ec:=Zkm (AV.d.inj e.2)
  subst ec
  rcases hd with⟨_,N,hN,rfl⟩|⟨z,_⟩
  ·exact⟨_,Got.own (Zbd _ _ _),q N hN⟩
  ·exact absurd hc z,λ_ z=>z.elim⟩
theorem Zkn{sgf:Mach->List Int->Int}(hl:ns.length<=2)(hc:c∉ns)(q:Q (.av (.d (relD b ns M)))):ClR Zgv (ZdL sgf) NP [] Q X [.av (.d (relD b ns M)),.av (.d (dS c))] :=
 ⟨[.d (relD b ns M),.d (dS c)],.cons (.d NR.av rfl) (.cons (.d NR.av rfl) .nil),⟨b,ns,c,M,rfl,hl,λz=>absurd z hc⟩,λd ⟨b',ns',c',M',e,hd⟩=>by
  simp only[List.append_nil,List.cons.injEq,and_true] at e
  obtain⟨rfl,rfl,rfl⟩:=Zd0 (AV.d.inj e.1)
  have ec:=Zkm (AV.d.inj e.2)
  subst ec
  rcases hd with⟨z,_⟩|⟨_,rfl⟩
  ·exact absurd z hc
  ·exact⟨_,Got.own (Zbd _ _ _),q⟩,λ_ z=>z.elim⟩
theorem Zbe(h:Rl b ns M)(n6:M.rows.length<=6)(hc:c∈ns)(q:∀ N,Rl b (rst ns c) N->N.rows.length<=2 ^ M.rows.length->(∀ w,Dgb (b ^ (rst ns c).length) w->(sgw N w=1↔∃ u,PWc b ns c w u/\sgw M u=1))->Q (.av (.d (relD b (rst ns c) N)))):ClR Zgv (ZdL sgS) NP [] Q X [.av (.d (relD b ns M)),.av (.d (dS c))] :=
 ZoL (h.wo n6 hc) hc λN hN=>let ⟨h1,h2,h3⟩:=Zm9 h n6 hc hN;q N h1 h2 h3
theorem Zbf(h:Rl b ns M)(n6:M.rows.length<=6)(hc:c∈ns)(q:∀ N,Rl b (rst ns c) N->N.rows.length<=2 ^ M.rows.length->(∀ w,Dgb (b ^ (rst ns c).length) w->(sgw N w=1↔∀ u,PWc b ns c w u->sgw M u=1))->Q (.av (.d (relD b (rst ns c) N)))):ClR Zgv (ZdL sgE) NP [] Q X [.av (.d (relD b ns M)),.av (.d (dS c))] :=
 ZoL (h.wo n6 hc) hc λN hN=>let ⟨h1,h2,h3⟩:=Zlo h n6 hc hN;q N h1 h2 h3
theorem Zh1(h:Rl b ns M)(q:Q (.av (.d (relD b ns (noM M))))):Cl S_no [] Q [.av (.d (relD b ns M))] :=
 ZaR (by walk_at "nrs") ⟨b,ns,M,rfl,by rw[h.p.s];have:=h.p.n1;omega,rfl⟩ (Got.own (Zbd _ _ _)) q
theorem Zlq{g:Int->Int->Int}(hg:∀ x y,(x=0\/x=1)->(y=0\/y=1)->g x y=0\/g x y=1)(hA:Rl b ns A)(hB:Rl b ns B)(hn:A.rows.length*B.rows.length<=100)(q:∀ N,Rl b ns N->N.rows.length<=A.rows.length*B.rows.length->(∀ w,Dgb (b ^ ns.length) w->sgw N w=g (sgw A w) (sgw B w))->Q (.av (.d (relD b ns N)))):ClR (Zki g) (Zgx g) NP [] Q X [.av (.d (relD b ns A)),.av (.d (relD b ns B))] :=
 ⟨[.d (relD b ns A),.d (relD b ns B)],.cons (.d NR.av rfl) (.cons (.d NR.av rfl) .nil),⟨b,ns,A,B,rfl,hA.pr hB hn hg⟩,λd ⟨b',ns',A',B',N,e,hN,ed⟩=>by
  simp only[List.append_nil,List.cons.injEq,and_true] at e
  obtain⟨rfl,rfl,rfl⟩:=Zd0 (AV.d.inj e.1)
  obtain⟨_,_,rfl⟩:=Zd0 (AV.d.inj e.2)
  subst ed
  obtain⟨h1,h2,h3⟩:=Zna hA hB hn hg hN
  exact⟨_,Got.own (Zbd _ _ _),q N h1 h2 h3⟩,λ_ z=>z.elim⟩
end
theorem ZoM:∀ x y:Int,(x=0\/x=1)->(y=0\/y=1)->gMin x y=0\/gMin x y=1:=λx y hx hy=>by unfold gMin;split<;>assumption
theorem ZoN:∀ x y:Int,(x=0\/x=1)->(y=0\/y=1)->gMax x y=0\/gMax x y=1:=λx y hx hy=>by unfold gMax;split<;>assumption
theorem ZlQ{x y:Int}(hx:x=0\/x=1)(hy:y=0\/y=1):gMin x y=1↔x=1/\y=1:=by
 unfold gMin
 rcases hx with rfl|rfl<;>rcases hy with rfl|rfl<;>decide
theorem Zh2{x y:Int}(hx:x=0\/x=1)(hy:y=0\/y=1):gMax x y=1↔x=1\/y=1:=by
 unfold gMax
 rcases hx with rfl|rfl<;>rcases hy with rfl|rfl<;>decide
section
variable {b:Int}{ns:List OkS}{c d:OkS}{A B C D E F:Mach}
theorem ZdC(hb:2<=b/\b<=5)(hs:SrtOk ns){w u:List Int}(h:PWc b ns c w u):Dgb (b ^ ns.length) u:=by
 have:=ZcH hb hs.l
 have h1:=h.1
 rw[Int.toNat_of_nonneg (by omega)] at h1
 exact h1
theorem ZoO(h:Rl b ns A)(hC:Rl b (rst ns c) C)(hD:Rl b (rst ns c) D)(sC:∀ w,Dgb (b ^ (rst ns c).length) w->(sgw C w=1↔∀ u,PWc b ns c w u->sgw A u=1))(sD:∀ w,Dgb (b ^ (rst ns c).length) w->(sgw D w=1↔∃ u,PWc b ns c w u/\sgw (noM A) u=1)):C=noM D:=by
 obtain⟨n1,n2⟩:=Zm7 h
 obtain⟨n3,n4⟩:=Zm7 hD
 refine Ziz hC n3 λw hw=>?_
 rw[sC w hw,n4 w hw]
 have e:(1-sgw D w=1)↔¬ sgw D w=1:=by rcases hD.v hw with z|z<;>rw[z]<;>decide
 rw[e,sD w hw]
 constructor
 ·rintro hA ⟨u,hu,z⟩
  rw[n2 u (ZdC h.hb h.s hu),hA u hu] at z
  omega
 ·intro hn u hu
  rcases h.v (ZdC h.hb h.s hu) with z|z
  ·exact absurd ⟨u,hu,by rw[n2 u (ZdC h.hb h.s hu),z];rfl⟩ hn
  ·exact z
theorem Znb(hA:Rl b ns A)(hB:Rl b ns B)(hC:Rl b ns C)(hD:Rl b (rst ns c) D)(hE:Rl b (rst ns c) E)(hF:Rl b (rst ns c) F){G:Mach}(hG:Rl b (rst ns c) G)
  (sC:∀ w,Dgb (b ^ ns.length) w->sgw C w=gMax (sgw A w) (sgw B w)) (sD:∀ w,Dgb (b ^ (rst ns c).length) w->(sgw D w=1↔∃ u,PWc b ns c w u/\sgw C u=1)) (sE:∀ w,Dgb (b ^ (rst ns c).length) w->(sgw E w=1↔∃ u,PWc b ns c w u/\sgw A u=1)) (sF:∀ w,Dgb (b ^ (rst ns c).length) w->(sgw F w=1↔∃ u,PWc b ns c w u/\sgw B u=1)) (sG:∀ w,Dgb (b ^ (rst ns c).length) w->sgw G w=gMax (sgw E w) (sgw F w)):D=G:=by
 refine Ziz hD hG λw hw=>?_
 rw[sD w hw,sG w hw,Zh2 (hE.v hw) (hF.v hw),sE w hw,sF w hw]
 constructor
 ·rintro⟨u,hu,z⟩
  have du:=ZdC hA.hb hA.s hu
  rw[sC u du,Zh2 (hA.v du) (hB.v du)] at z
  exact z.imp (λz=>⟨u,hu,z⟩) λz=>⟨u,hu,z⟩
 ·rintro (⟨u,hu,z⟩|⟨u,hu,z⟩)
  ·have du:=ZdC hA.hb hA.s hu
   exact⟨u,hu,by rw[sC u du,Zh2 (hA.v du) (hB.v du)];exact .inl z⟩
  ·have du:=ZdC hA.hb hA.s hu
   exact⟨u,hu,by rw[sC u du,Zh2 (hA.v du) (hB.v du)];exact .inr z⟩
theorem Zlr(hA:Rl b ns A)(hB:Rl b ns B)(hC:Rl b ns C)(hD:Rl b (rst ns c) D)(hE:Rl b (rst ns c) E)(hF:Rl b (rst ns c) F){G:Mach}(hG:Rl b (rst ns c) G)
  (sC:∀ w,Dgb (b ^ ns.length) w->sgw C w=gMin (sgw A w) (sgw B w)) (sD:∀ w,Dgb (b ^ (rst ns c).length) w->(sgw D w=1↔∀ u,PWc b ns c w u->sgw C u=1)) (sE:∀ w,Dgb (b ^ (rst ns c).length) w->(sgw E w=1↔∀ u,PWc b ns c w u->sgw A u=1)) (sF:∀ w,Dgb (b ^ (rst ns c).length) w->(sgw F w=1↔∀ u,PWc b ns c w u->sgw B u=1)) (sG:∀ w,Dgb (b ^ (rst ns c).length) w->sgw G w=gMin (sgw E w) (sgw F w)):D=G:=by
 refine Ziz hD hG λw hw=>?_
 rw[sD w hw,sG w hw,ZlQ (hE.v hw) (hF.v hw),sE w hw,sF w hw]
 have key:∀ u,PWc b ns c w u->(sgw C u=1↔sgw A u=1/\sgw B u=1):=λu hu=>by
  have du:=ZdC hA.hb hA.s hu
  rw[sC u du,ZlQ (hA.v du) (hB.v du)]
 exact⟨λz=>⟨λu hu=>((key u hu).mp (z u hu)).1,λu hu=>((key u hu).mp (z u hu)).2⟩,λz u hu=>(key u hu).mpr ⟨z.1 u hu,z.2 u hu⟩⟩
theorem Zh3(hb:2<=b/\b<=5)(hs:SrtOk ns)(hc:c∈ns)(he:rst (rst ns c) d=[]){w u:List Int}(hw:Dgb 1 w)(hu:Dgb (b ^ ns.length) u):(∃ v,PWc b (rst ns c) d w v/\PWc b ns c v u)↔w.length<=u.length:=by
 have hp:=ZoK hb hs hc
 have p1:=ZcH hb hs.l
 have p2:=ZcH hb (Zc7 (c:=c) hs.l)
 constructor
 ·rintro⟨v,⟨_,j,h2⟩,_,i,h4⟩
  have e1:=congrArg List.length h2
  have e2:=congrArg List.length h4
  rw[List.length_map,List.length_append,List.length_replicate] at e1 e2
  omega
 ·intro hl
  have hu2:Dgb (((b ^ ns.length).toNat:Nat):Int) u:=by rw[Int.toNat_of_nonneg (by omega)];exact hu
  refine⟨u.map (phi b ns (rst ns c)),⟨λx hx=>?_,u.length-w.length,?_⟩,hu2,0,by simp⟩
  ·obtain⟨y,hy,rfl⟩:=List.mem_map.mp hx
   exact hp.i y (hu2 y hy)
  ·rw[he,List.map_map]
   have e1:u.map ((phi b (rst ns c) []) ∘ phi b ns (rst ns c))=List.replicate u.length 0:=by
    refine List.eq_replicate_iff.mpr ⟨by rw[List.length_map],λx hx=>?_⟩
    obtain⟨y,hy,rfl⟩:=List.mem_map.mp hx
    rfl
   have e2:w=List.replicate w.length 0:=List.eq_replicate_iff.mpr ⟨rfl,λx hx=>by have:=hw x hx;omega⟩
   have e3:∀ n,w=List.replicate n 0->n<=u.length->List.replicate (u.length-n) 0++w=List.replicate u.length 0:=λn h hn=>by
    rw[h,List.replicate_append_replicate]
    congr 1
    omega
   rw[e1]
   exact (e3 w.length e2 hl).symm
end
structure QE(X:L2.Cx)(e:Expr)(t:L2.TE):Prop where
 h:L2.PE X e t
structure QA(X:L2.Cx)(es:List Expr)(t:L2.TA):Prop where
 h:L2.PA X es t
structure QS(X:L2.Cx)(st:Stmt)(t:L2.TS):Prop where
 h:L2.PS X st t
section
variable {X:L2.Cx}{e a b:Expr}{es:List Expr}{te tb:L2.TE}{ta:L2.TA}{pos pos':Pos}{r:L2.R2}{x:Str}{j:Nat}{st:Stmt}{sts:List Stmt}{t u:L2.TS}
theorem ZpU(h:L2.PE X e te):QE X e te:=⟨h⟩
theorem Ze5:QE X (.Constant (.str x) j pos) (tC (.str x)):=⟨ZiG⟩
theorem ZpV(hr:L2.IxR X r)(ha:QE X a te)(hb:QE X b tb)(hs:L2.PlainIx b):QE X (.Subscript a b pos) (tOp r te tb):=⟨Zao hr ha.h hb.h hs⟩
theorem Zh4:QA X [] tNil:=⟨Zab⟩
theorem Zca(h:QE X e te)(r:QA X es ta)(hs:starEach (e::es) X.env=(false,eval e X.env)::starEach es X.env:=by rfl):QA X (e::es) (tCons te ta):=⟨Zaa h.h r.h hs⟩
theorem ZoP(h:QA X es ta):QE X (.List es pos) (tLst ta):=⟨Zcb h.h⟩
theorem Zko{x1}(h:QA X es ta):QE X (.Tuple es x1 pos) (tTup ta):=⟨ZbM h.h⟩
theorem ZoQ{i:Nat}(hN:X.N.Nodup)(hi:X.N[i]?=some x)(hx:L2.Loc X.env.scope x)(he:QE X e te)(hs:swapsWith e (some (.Name x pos')) pos.line X.env=pure false:=by rfl)(hf:X.fn x=true\/X.env.scope.names.lookup x=some .local:=by first|exact .inl rfl|exact .inr rfl|assumption) :
  QS X (.Assign [.Name x pos'] e pos) (tAsg te (gName i)):=⟨Zal hN hi hx he.h hs hf⟩
theorem Zkp(h:QS X st t)(r:L2.PSs X sts u):L2.PSs X (st::sts) (tSeq t u):=Zac h.h r
end
abbrev oOth:OkS:=⟨"other",by decide +kernel⟩
abbrev oZ:OkS:=⟨"z",by decide +kernel⟩
abbrev nmL:List PyData:=[.tuple [.str "a",.str "b"],.tuple [.str "n",.str "p"],.tuple [.str "x",.str "y"]]
theorem srt2{x y:OkS}(h1:x≠y)(h2:PyProof.Rows.sortedS [y.1,x.1]=false):SrtOk [x,y] :=
 ⟨by simpa using h1,Nat.le_refl _,λa b e=>by
  simp only[List.cons.injEq,and_true] at e
  rw[<- e.1,<- e.2];exact h2⟩
theorem ZpW{k:Int}(h:0<=k/\k<3):∃ n0 n1:OkS,SrtOk [n0,n1]/\oOth∉[n0,n1]/\oZ∉[n0,n1]/\atI nmL k=some (.tuple ([n0,n1].map dS)):=by
 obtain e|e|e:k=0\/k=1\/k=2:=by omega
 ·exact⟨⟨"a",by decide +kernel⟩,⟨"b",by decide +kernel⟩,srt2 (by decide +kernel) (by decide +kernel),by decide +kernel,by decide +kernel,by rw[e];rfl⟩
 ·exact⟨⟨"n",by decide +kernel⟩,⟨"p",by decide +kernel⟩,srt2 (by decide +kernel) (by decide +kernel),by decide +kernel,by decide +kernel,by rw[e];rfl⟩
 ·exact⟨⟨"x",by decide +kernel⟩,⟨"y",by decide +kernel⟩,srt2 (by decide +kernel) (by decide +kernel),by decide +kernel,by decide +kernel,by rw[e];rfl⟩
theorem ZpX{a d:OkS}(h:a≠d):rst [a,d] a=[d]:=by unfold rst;rw[List.filter_cons_of_neg (by simp),List.filter_cons_of_pos (by simpa using Ne.symm h)];rfl
theorem ZpY{a d:OkS}(h:a≠d):rst [a,d] d=[a]:=by unfold rst;rw[List.filter_cons_of_pos (by simpa using h),List.filter_cons_of_neg (by simp)];rfl
theorem ZoR(a:OkS):rst [a] a=[]:=by unfold rst;rw[List.filter_cons_of_neg (by simp)];rfl
theorem ZoS{ns:List OkS}{c:OkS}:c∉rst ns c:=λz=>by have:=(List.mem_filter.mp z).2;simp at this
theorem ZoT{b r:Int}{ns:List OkS}{D:Mach}{R F:List Int}(hb:2<=b/\b<=5)(hr:1<=r/\r<=2)(hs:SrtOk ns)(hl:ns.length=2)(g:Good r (b*b) 2 D)(hL:LotsM D R)(hB:Rb D R F):Rl b ns (outM D R F)/\(outM D R F).rows.length<=2:=by
 have hsq:=Zlh hb
 have hn:=g.n
 have hle:=hB.le
 refine⟨⟨hb,hs,hB.parts,?_,Ze3 hL hB g.z,⟨D,R,F,hL,hB,rfl⟩,λx hx=>?_⟩,by rw[hB.len];omega⟩
 ·rw[hB.lt,hl,pw2]
  exact (g.row _ (Zaq (d:=[]) (show 0<D.rows.length by omega))).1
 ·obtain⟨a,ha,rfl⟩:=List.mem_map.mp (show x∈F.map (sgR D) from hx)
  have hu:=Zay.mp (hB.u a ha)
  have h1:=g.sg _ (Zaq (d:=0) (show a.toNat<D.signs.length by have:=g.s;omega))
  show D.signs.getD a.toNat 0=0\/D.signs.getD a.toNat 0=1
  omega
theorem le22{n m:Nat}(h:n<=2)(hm:m<=2 ^ n):m<=4:=Nat.le_trans hm (Nat.pow_le_pow_right (by decide) h)
section
variable {b:Int}{ns:List OkS}{c d:OkS}{M A B:Mach}
theorem Zh5(hb:2<=b/\b<=5)(hs:SrtOk ns)(hc:c∈ns)(he:rst (rst ns c) d=[])(sA:∀ v,Dgb (b ^ (rst ns c).length) v->(sgw A v=1↔∃ u,PWc b ns c v u/\sgw M u=1))(sB:∀ w,Dgb (b ^ (rst (rst ns c) d).length) w->(sgw B w=1↔∃ v,PWc b (rst ns c) d w v/\sgw A v=1)){w:List Int}(hw:Dgb (b ^ ([]:List OkS).length) w):sgw B w=1↔∃ u,Dgb (b ^ ns.length) u/\w.length<=u.length/\sgw M u=1:=by
 have hw1:Dgb 1 w:=by rw[<- pw0 b];exact hw
 rw[sB w (by rw[he];exact hw)]
 constructor
 ·rintro⟨v,hv,z⟩
  obtain⟨u,hu,z2⟩:=(sA v (ZdC hb (Zev hs hc) hv)).mp z
  have du:=ZdC hb hs hu
  exact⟨u,du,(Zh3 hb hs hc he hw1 du).mp ⟨v,hv,hu⟩,z2⟩
 ·rintro⟨u,hu,hl,z⟩
  obtain⟨v,hv,hvu⟩:=(Zh3 hb hs hc he hw1 hu).mpr hl
  exact⟨v,hv,(sA v (ZdC hb (Zev hs hc) hv)).mpr ⟨u,hvu,z⟩⟩
theorem Zgz(hb:2<=b/\b<=5)(hs:SrtOk ns)(hc:c∈ns)(he:rst (rst ns c) d=[])(sA:∀ v,Dgb (b ^ (rst ns c).length) v->(sgw A v=1↔∀ u,PWc b ns c v u->sgw M u=1))(sB:∀ w,Dgb (b ^ (rst (rst ns c) d).length) w->(sgw B w=1↔∀ v,PWc b (rst ns c) d w v->sgw A v=1)){w:List Int}(hw:Dgb (b ^ ([]:List OkS).length) w):sgw B w=1↔∀ u,Dgb (b ^ ns.length) u->w.length<=u.length->sgw M u=1:=by
 have hw1:Dgb 1 w:=by rw[<- pw0 b];exact hw
 rw[sB w (by rw[he];exact hw)]
 constructor
 ·intro z u hu hl
  obtain⟨v,hv,hvu⟩:=(Zh3 hb hs hc he hw1 hu).mpr hl
  exact (sA v (ZdC hb (Zev hs hc) hv)).mp (z v hv) u hvu
 ·intro z v hv
  refine (sA v (ZdC hb (Zev hs hc) hv)).mpr λu hu=>?_
  have du:=ZdC hb hs hu
  exact z u du ((Zh3 hb hs hc he hw1 du).mp ⟨v,hv,hu⟩)
end
theorem ZoU(T:Txt K mg)(B:base.BuiltinsAt mg mainGlobals)(hTs:∀ p∈ts0,p∈Tabs.ts){f:Addr}{fd:FuncData}(F:FunD K "law" "law" Zla .none f fd):FnOk P w K mg base CX0 11 f fd ["_law_script"] (Zd9 K):=by
 have c_law_cell:Cal P w K mg base CX0 1 "_law_cell" ["_law_script", "_law_k"] [] (spR K ZdZ (λ_=>PostI 2147483629) NP):=Zkk T
 have c_law_drawn:Cal P w K mg base CX0 2 "_law_drawn" ["_law_script", "_law_at", "_law_rooms", "_law_letters", "_law_last"] [] (spR K Zkl Zg8 NP):=Zlp T
 have c_least:Cal P w K mg base CX0 6 "least" ["machine"] [] (spR K Ze2 ZcD NP):=ZhT T B hTs
 have c_some:Cal P w K mg base CX0 9 "some" ["relation", "name"] [] (spR K Zgv (ZdL sgS) NP):=Zm5 T B hTs
 have c_every:Cal P w K mg base CX0 9 "every" ["relation", "name"] [] (spR K Zgv (ZdL sgE) NP):=Zlm T B hTs
 have c_no:Cal P w K mg base CX0 1 "no" ["one"] [] (spV K S_no NX):=ZpS T
 have c_both:Cal P w K mg base CX0 10 "both" ["one", "other"] [] (spR K (Zki gMin) (Zgx gMin) NP):=Zm6 T B hTs
 have c_either:Cal P w K mg base CX0 10 "either" ["one", "other"] [] (spR K (Zki gMax) (Zgx gMax) NP):=Zkj T B hTs
 refine ZkU (k:=10) F ZeY rfl λcdv A outer s H E hr=>?_
 refine' ⟨_,?bb,?_⟩
 case' bb=>refine' Zac ?aa0 ?bb0
 case' aa0=>exact (Zal (i:=1) ZeY.nd rfl (Or.inl rfl) (ZaG (Zbi (K:=K) rfl) Zae (ZaG ZbL (Zai (c_law_cell.mono (by decide)) hr rfl pass0 (Zaa (pv 0) (Zaa Zae Zab))) Zae)))
 case' bb0=>refine' Zkp ?aa1 ?bb1
 case' aa1=>exact (ZoQ (i:=2) ZeY.nd rfl (Or.inl rfl) (ZpV (Zag (K:=K) rfl hr.units) (ZoP (Zca (Zko (Zca Ze5 (Zca Ze5 Zh4))) (Zca (Zko (Zca Ze5 (Zca Ze5 Zh4))) (Zca (Zko (Zca Ze5 (Zca Ze5 Zh4))) Zh4)))) (ZpU (ZaG ZbL (ZaG Zd1 (Zai (c_law_cell.mono (by decide)) hr rfl pass0 (Zaa (pv 0) (Zaa Zae Zab))) Zae) Zae)) (λ_ _=>rfl)))
 case' bb1=>refine' Zac ?aa2 ?bb2
 case' aa2=>exact (Zal (i:=3) ZeY.nd rfl (Or.inl rfl) (Zao (Zag (K:=K) rfl hr.units) (pv 2) (ZaG ZbL (ZaG Zd1 (Zai (c_law_cell.mono (by decide)) hr rfl pass0 (Zaa (pv 0) (Zaa Zae Zab))) Zae) Zae) (λ_ _=>rfl)))
 case' bb2=>refine' Zac ?aa3 ?bb3
 case' aa3=>exact (Zal (i:=4) ZeY.nd rfl (Or.inl rfl) (ZbM (Zaa (pv 1) (Zaa (pv 2) (Zaa (Zai (c_least.mono (by decide)) hr rfl pass0 (Zaa (Zai (c_law_drawn.mono (by decide)) hr rfl pass0 (Zaa (pv 0) (Zaa Zae (Zaa (ZaG (Zbi (K:=K) rfl) Zae (ZaG ZbL (Zai (c_law_cell.mono (by decide)) hr rfl pass0 (Zaa (pv 0) (Zaa Zae Zab))) Zae)) (Zaa (ZaG Za4 (pv 1) (pv 1)) (Zaa Zae Zab)))))) Zab)) Zab)))))
 case' bb3=>refine' Zac ?aa4 ?bb4
 case' aa4=>exact (Zal (i:=5) ZeY.nd rfl (Or.inl rfl) (ZbM (Zaa (pv 1) (Zaa (pv 2) (Zaa (Zai (c_least.mono (by decide)) hr rfl pass0 (Zaa (Zai (c_law_drawn.mono (by decide)) hr rfl pass0 (Zaa (pv 0) (Zaa Zae (Zaa (ZaG (Zbi (K:=K) rfl) Zae (ZaG ZbL (Zai (c_law_cell.mono (by decide)) hr rfl pass0 (Zaa (pv 0) (Zaa Zae Zab))) Zae)) (Zaa (ZaG Za4 (pv 1) (pv 1)) (Zaa Zae Zab)))))) Zab)) Zab)))))
 case' bb4=>refine' Zac ?aa5 ?bb5
 case' aa5=>exact (Zdv (PW.pt (Zkt (ZaA (Zcl (K:=K) rfl hr.units) (Zai (c_every.mono (by decide)) hr rfl pass0 (Zaa (pv 4) (Zaa (pv 3) Zab))) (Zai (c_no.mono (by decide)) hr rfl pass0 (Zaa (Zai (c_some.mono (by decide)) hr rfl pass0 (Zaa (Zai (c_no.mono (by decide)) hr rfl pass0 (Zaa (pv 4) Zab)) (Zaa (pv 3) Zab))) Zab)) (nomark _)) (Zhe (ZaA (Zcl (K:=K) rfl hr.units) (Zai (c_no.mono (by decide)) hr rfl pass0 (Zaa (Zai (c_every.mono (by decide)) hr rfl pass0 (Zaa (pv 4) (Zaa (pv 3) Zab))) Zab)) (Zai (c_some.mono (by decide)) hr rfl pass0 (Zaa (Zai (c_no.mono (by decide)) hr rfl pass0 (Zaa (pv 4) Zab)) (Zaa (pv 3) Zab))) (nomark _)))))
    (Zaf (Zap Zh9))
    ZaY)
 case' bb5=>refine' Zac ?aa6 ?bb6
 case' aa6=>exact (Zdv (ZaA (Zcl (K:=K) rfl hr.units) (Zai (c_some.mono (by decide)) hr rfl pass0 (Zaa (Zai (c_either.mono (by decide)) hr rfl pass0 (Zaa (pv 4) (Zaa (pv 5) Zab))) (Zaa (pv 3) Zab))) (Zai (c_either.mono (by decide)) hr rfl pass0 (Zaa (Zai (c_some.mono (by decide)) hr rfl pass0 (Zaa (pv 4) (Zaa (pv 3) Zab))) (Zaa (Zai (c_some.mono (by decide)) hr rfl pass0 (Zaa (pv 5) (Zaa (pv 3) Zab))) Zab))) (nomark _))
    (Zaf (Zap Zh9))
    ZaY)
 case' bb6=>refine' Zac ?aa7 ?bb7
 case' aa7=>exact (Zdv (ZaA (Zcl (K:=K) rfl hr.units) (Zai (c_every.mono (by decide)) hr rfl pass0 (Zaa (Zai (c_both.mono (by decide)) hr rfl pass0 (Zaa (pv 4) (Zaa (pv 5) Zab))) (Zaa (pv 3) Zab))) (Zai (c_both.mono (by decide)) hr rfl pass0 (Zaa (Zai (c_every.mono (by decide)) hr rfl pass0 (Zaa (pv 4) (Zaa (pv 3) Zab))) (Zaa (Zai (c_every.mono (by decide)) hr rfl pass0 (Zaa (pv 5) (Zaa (pv 3) Zab))) Zab))) (nomark _))
    (Zaf (Zap Zh9))
    ZaY)
 case' bb7=>refine' Zac ?aa8 ?bb8
 case' aa8=>exact (Zdv (ZaA (Zcl (K:=K) rfl hr.units) (Zai (c_some.mono (by decide)) hr rfl pass0 (Zaa (Zai (c_some.mono (by decide)) hr rfl pass0 (Zaa (pv 4) (Zaa (Zao (Zag (K:=K) rfl hr.units) (pv 2) Zae (λ_ _=>rfl)) Zab))) (Zaa (Zao (Zag (K:=K) rfl hr.units) (pv 2) Zae (λ_ _=>rfl)) Zab))) (Zai (c_some.mono (by decide)) hr rfl pass0 (Zaa (Zai (c_some.mono (by decide)) hr rfl pass0 (Zaa (pv 4) (Zaa (Zao (Zag (K:=K) rfl hr.units) (pv 2) Zae (λ_ _=>rfl)) Zab))) (Zaa (Zao (Zag (K:=K) rfl hr.units) (pv 2) Zae (λ_ _=>rfl)) Zab))) (nomark _))
    (Zaf (Zap Zh9))
    ZaY)
 case' bb8=>refine' Zac ?aa9 ?bb9
 case' aa9=>exact (Zdv (ZaA (Zcl (K:=K) rfl hr.units) (Zai (c_every.mono (by decide)) hr rfl pass0 (Zaa (Zai (c_every.mono (by decide)) hr rfl pass0 (Zaa (pv 5) (Zaa (Zao (Zag (K:=K) rfl hr.units) (pv 2) Zae (λ_ _=>rfl)) Zab))) (Zaa (Zao (Zag (K:=K) rfl hr.units) (pv 2) Zae (λ_ _=>rfl)) Zab))) (Zai (c_every.mono (by decide)) hr rfl pass0 (Zaa (Zai (c_every.mono (by decide)) hr rfl pass0 (Zaa (pv 5) (Zaa (Zao (Zag (K:=K) rfl hr.units) (pv 2) Zae (λ_ _=>rfl)) Zab))) (Zaa (Zao (Zag (K:=K) rfl hr.units) (pv 2) Zae (λ_ _=>rfl)) Zab))) (nomark _))
    (Zaf (Zap Zh9))
    ZaY)
 case' bb9=>refine' Zac ?aa10 ?bb10
 case' aa10=>exact (Zdv (PW.pt (Zkt (ZaA (Zcl (K:=K) rfl hr.units) (Zai (c_some.mono (by decide)) hr rfl pass0 (Zaa (pv 4) (Zaa ZiG Zab))) (pv 4) (nomark _)) (Zhe (ZaA (Zcl (K:=K) rfl hr.units) (Zai (c_every.mono (by decide)) hr rfl pass0 (Zaa (pv 5) (Zaa ZiG Zab))) (pv 5) (nomark _)))))
    (Zaf (Zap Zh9))
    ZaY)
 case' bb10=>exact Zaf (Zap (ZlV (Zn3 (K:=K) rfl hr.units) (Zai (c_some.mono (by decide)) hr rfl pass0 (Zaa (Zai (c_some.mono (by decide)) hr rfl pass0 (Zaa (pv 4) (Zaa (pv 3) Zab))) (Zaa (pv 3) Zab))) (Zai (c_some.mono (by decide)) hr rfl pass0 (Zaa (pv 4) (Zaa (pv 3) Zab))) (nomark _)))
 intro ns hn hbits
 show Sv K _ _ _ [some (.d (dI ns)),none,none,none,none,none] _
 walk_at "vm"
 refine ZcE (by decide) λr0 a0 a1=>?_
 walk_at "vm"
 have hb:2<=2+r0%3/\2+r0%3<=5:=by omega
 generalize 2+r0%3=b at hb
 have hs:=Zlh hb
 refine Zho ?_
 walk_at "vm"
 refine ZbC ?_
 walk_at "vm"
 refine⟨[.d (.str "a"),.d (.str "b")],.cons rfl (.cons rfl .nil),by show 2<=1000;decide,?_⟩
 walk_at "vm"
 refine ZbC ?_
 walk_at "vm"
 refine⟨[.d (.str "n"),.d (.str "p")],.cons rfl (.cons rfl .nil),by show 2<=1000;decide,?_⟩
 walk_at "vm"
 refine ZbC ?_
 walk_at "vm"
 refine⟨[.d (.str "x"),.d (.str "y")],.cons rfl (.cons rfl .nil),by show 2<=1000;decide,?_⟩
 walk_at "vm"
 refine⟨nmL.map .d,.cons rfl (.cons rfl (.cons rfl .nil)),by show 3<=1000;decide,?_⟩
 walk_at "vm"
 refine ZcE (by decide) λr1 b0 b1=>?_
 walk_at "vm"
 have hk4:0<=r1 / 3%3/\r1 / 3%3<3:=by omega
 obtain⟨n0,n1,hsr,ho,hz,hix⟩:=ZpW hk4
 refine ix_L (ds:=nmL) rfl hix (Item.flat rfl) ?_
 walk_at "vm"
 refine ZcE (by decide) λr2 d0 d1=>?_
 walk_at "vm"
 have hat:r2 / 9%2=0\/r2 / 9%2=1:=by omega
 generalize r2 / 9%2=at_ at hat
 obtain⟨c,hc,hcx⟩:∃ c∈[n0,n1],atI ([n0,n1].map dS) at_=some (dS c):=by
  rcases hat with rfl|rfl
  ·exact⟨n0,.head _,rfl⟩
  ·exact⟨n1,.tail _ (.head _),rfl⟩
 refine ix_T rfl hcx Item.d ?_
 have hne:n0≠n1:=λe=>by subst e;have:=hsr.nd;simp at this
 have hat0:atI ([n0,n1].map dS) 0=some (dS n0):=rfl
 have hat1:atI ([n0,n1].map dS) 1=some (dS n1):=rfl
 have hr0:=ZpX hne
 have hr1:=ZpY hne
 have hm0:n0∈[n0,n1]:=.head _
 have hm1:n1∈[n0,n1]:=.tail _ (.head _)
 have hl2:[n0,n1].length=2:=rfl
 generalize hnm:[n0,n1]=nm at hsr ho hz hc hr0 hr1 hm0 hm1 hl2 hat0 hat1 ⊢
 walk_at "vm"
 refine ZbC ?_
 walk_at "vm"
 refine ZcE (by decide) λr3 e0 e1=>?_
 walk_at "vm"
 have hrm:1<=1+r3%2/\1+r3%2<=2:=by omega
 generalize 1+r3%2=rm1 at hrm
 refine Zgy (by decide) (by omega) (by omega) λD1 hG1=>?_
 walk_at "vm"
 refine Zem (hG1.parts (by omega) (by omega) (by decide)) λR1 F1 hL1 hB1=>?_
 obtain⟨h1,l1⟩:=ZoT hb hrm hsr hl2 hG1 hL1 hB1
 generalize outM D1 R1 F1=M1 at h1 l1
 walk_at "vm"
 refine⟨[.d (.int b),.d (.tuple (nm.map dS)),.d (dM M1)],.cons rfl (.cons rfl (.cons rfl .nil)),by show 3<=1000;decide,?_⟩
 refine v_sD (x:=relD b nm M1) rfl ?_
 walk_at "vm"
 refine ZbC ?_
 walk_at "vm"
 refine ZcE (by decide) λr4 f0 f1=>?_
 walk_at "vm"
 have hrm2:1<=1+r4%2/\1+r4%2<=2:=by omega
 generalize 1+r4%2=rm2 at hrm2
 refine Zgy (by decide) (by omega) (by omega) λD2 hG2=>?_
 walk_at "vm"
 refine Zem (hG2.parts (by omega) (by omega) (by decide)) λR2 F2 hL2 hB2=>?_
 obtain⟨h2,l2⟩:=ZoT hb hrm2 hsr hl2 hG2 hL2 hB2
 generalize outM D2 R2 F2=M2 at h2 l2
 walk_at "vm"
 refine⟨[.d (.int b),.d (.tuple (nm.map dS)),.d (dM M2)],.cons rfl (.cons rfl (.cons rfl .nil)),by show 3<=1000;decide,?_⟩
 refine v_sD (x:=relD b nm M2) rfl ?_
 have hN1:=(Zm7 h1).1
 have l1':(noM M1).rows.length<=6:=by show M1.rows.length<=6;omega
 have rEq:∀ {Q:TV->Prop} {ns:List OkS} {N N':Mach},N=N'->Q (.av (.d (.bool false)))->VL.Op K (toF E) NE (rOr rNe (rNeD K)) (.av (.d (relD b ns N))) (.av (.d (relD b ns N'))) Q:=λ{Q ns N N'} e q=>by
  subst e
  refine ne_d (f:=λp:Int×List OkS×Mach=>relD p.1 p.2.1 p.2.2) (c:=(b,ns,N)) (d:=(b,ns,N)) encRel rfl rfl ?_
  rw[decide_eq_true rfl]
  exact q
 walk_at "vm"
 refine Zbf h1 (by omega) hc λN1 q1 q2 q3=>?_
 walk_at "vm"
 refine Zh1 h1 ?_
 walk_at "vm"
 refine Zbe hN1 l1' hc λN2 p1 p2 p3=>?_
 walk_at "vm"
 refine Zh1 p1 ?_
 have e12:N1=noM N2:=ZoO h1 q1 p1 q3 p3
 walk_at "vm"
 refine rEq e12 ?_
 refine⟨_,rfl,?_⟩
 walk_at "vm"
 refine Zbf h1 (by omega) hc λN3 q1 q2 q3=>?_
 walk_at "vm"
 refine Zh1 q1 ?_
 walk_at "vm"
 refine Zh1 h1 ?_
 walk_at "vm"
 refine Zbe hN1 l1' hc λN4 p1 p2 p3=>?_
 walk_at "vm"
 refine rEq (by rw[ZoO h1 q1 p1 q3 p3];exact ZpT p1.b1) ?_
 refine⟨_,rfl,?_⟩
 walk_at "vm"
 have l4:M1.rows.length*M2.rows.length<=4:=Nat.mul_le_mul l1 l2
 refine Zlq ZoN h1 h2 (by omega) λC k1 k2 k3=>?_
 walk_at "vm"
 refine Zbe k1 (by omega) hc λD i1 i2 i3=>?_
 walk_at "vm"
 refine Zbe h1 (by omega) hc λN5 q1 q2 q3=>?_
 walk_at "vm"
 refine Zbe h2 (by omega) hc λN6 p1 p2 p3=>?_
 walk_at "vm"
 refine Zlq ZoN q1 p1 (Nat.le_trans (Nat.mul_le_mul (le22 l1 q2) (le22 l2 p2)) (by decide)) λG j1 j2 j3=>?_
 walk_at "vm"
 refine rEq (Znb h1 h2 k1 i1 q1 p1 j1 k3 i3 q3 p3 j3) ?_
 refine⟨_,rfl,?_⟩
 walk_at "vm"
 refine Zlq ZoM h1 h2 (by omega) λC k1 k2 k3=>?_
 walk_at "vm"
 refine Zbf k1 (by omega) hc λD i1 i2 i3=>?_
 walk_at "vm"
 refine Zbf h1 (by omega) hc λN5 q1 q2 q3=>?_
 walk_at "vm"
 refine Zbf h2 (by omega) hc λN6 p1 p2 p3=>?_
 walk_at "vm"
 refine Zlq ZoM q1 p1 (Nat.le_trans (Nat.mul_le_mul (le22 l1 q2) (le22 l2 p2)) (by decide)) λG j1 j2 j3=>?_
 walk_at "vm"
 refine rEq (Zlr h1 h2 k1 i1 q1 p1 j1 k3 i3 q3 p3 j3) ?_
 refine⟨_,rfl,?_⟩
 have z0:rst (rst nm n0) n1=[]:=by rw[hr0,ZoR]
 have z1:rst (rst nm n1) n0=[]:=by rw[hr1,ZoR]
 have hn10:n1∈rst nm n0:=by rw[hr0];exact .head _
 have hn01:n0∈rst nm n1:=by rw[hr1];exact .head _
 walk_at "vm"
 refine ix_T rfl hat0 Item.d ?_
 walk_at "vm"
 refine Zbe h1 (by omega) hm0 λA0 q1 q2 q3=>?_
 walk_at "vm"
 refine ix_T rfl hat1 Item.d ?_
 walk_at "vm"
 refine Zbe q1 (by have:=le22 l1 q2;omega) hn10 λA1 p1 p2 p3=>?_
 walk_at "vm"
 refine ix_T rfl hat1 Item.d ?_
 walk_at "vm"
 refine Zbe h1 (by omega) hm1 λB0 i1 i2 i3=>?_
 walk_at "vm"
 refine ix_T rfl hat0 Item.d ?_
 walk_at "vm"
 refine Zbe i1 (by have:=le22 l1 i2;omega) hn01 λB1 j1 j2 j3=>?_
 rw[z0] at p1 ⊢
 rw[z1] at j1 ⊢
 walk_at "vm"
 refine rEq (Ziz p1 j1 λw hw=>(Zh5 hb hsr hm0 z0 q3 (by rw[z0];rw[z0] at p3;exact p3) hw).trans (Zh5 hb hsr hm1 z1 i3 (by rw[z1];rw[z1] at j3;exact j3) hw).symm) ?_
 refine⟨_,rfl,?_⟩
 walk_at "vm"
 refine ix_T rfl hat0 Item.d ?_
 walk_at "vm"
 refine Zbf h2 (by omega) hm0 λA0 q1 q2 q3=>?_
 walk_at "vm"
 refine ix_T rfl hat1 Item.d ?_
 walk_at "vm"
 refine Zbf q1 (by have:=le22 l2 q2;omega) hn10 λA1 p1 p2 p3=>?_
 walk_at "vm"
 refine ix_T rfl hat1 Item.d ?_
 walk_at "vm"
 refine Zbf h2 (by omega) hm1 λB0 i1 i2 i3=>?_
 walk_at "vm"
 refine ix_T rfl hat0 Item.d ?_
 walk_at "vm"
 refine Zbf i1 (by have:=le22 l2 i2;omega) hn01 λB1 j1 j2 j3=>?_
 rw[z0] at p1 ⊢
 rw[z1] at j1 ⊢
 walk_at "vm"
 refine rEq (Ziz p1 j1 λw hw=>(Zgz hb hsr hm0 z0 q3 (by rw[z0];rw[z0] at p3;exact p3) hw).trans (Zgz hb hsr hm1 z1 i3 (by rw[z1];rw[z1] at j3;exact j3) hw).symm) ?_
 refine⟨_,rfl,?_⟩
 walk_at "vm"
 refine Zkn (c:=oOth) hsr.l ho ?_
 walk_at "vm"
 refine rEq rfl ?_
 refine⟨_,rfl,?_⟩
 walk_at "vm"
 refine Zkn (c:=oZ) hsr.l hz ?_
 walk_at "vm"
 refine rEq rfl ?_
 refine⟨_,rfl,?_⟩
 walk_at "vm"
 refine Zbe h1 (by omega) hc λN7 q1 q2 q3=>?_
 walk_at "vm"
 refine Zkn (c:=c) (Zc7 hsr.l) ZoS ?_
 walk_at "vm"
 refine Zbe h1 (by omega) hc λN8 p1 p2 p3=>?_
 have e:N7=N8:=Ziz q1 p1 λw hw=>(q3 w hw).trans (p3 w hw).symm
 subst e
 walk_at "vm"
 refine eq_d (f:=λp:Int×List OkS×Mach=>relD p.1 p.2.1 p.2.2) (c:=(b,rst nm c,N7)) (d:=(b,rst nm c,N7)) encRel rfl rfl ?_
 rw[decide_eq_true rfl]
 exact ZaZ rfl
end
instance tabs0:Tabs:=⟨ts0⟩
theorem ZpZ{P:List Value->Prop}(h:P []):∀ us,us.length=0->P us:=λus e=>(List.eq_nil_of_length_eq_zero e).symm▸h
theorem ZiA{P:List Value->Prop}{n:Nat}(h:∀ a us,us.length=n->P (a::us))(us:List Value)(e:us.length=n+1):P us:=by
  cases us with
  | nil=>cases e
  | cons a us=>exact h a us (Nat.succ.inj e)
theorem ZgA{P:List Value->Prop}(h:∀ a0,P [a0]):∀ us,us.length=1->P us:=ZiA λa0=>ZpZ (P:=λus=>P (a0::us)) (h a0)
theorem ZdD{P:List Value->Prop}(h:∀ a0 a1,P [a0,a1]):∀ us,us.length=2->P us:=ZiA λa0=>ZgA (P:=λus=>P (a0::us)) (h a0)
theorem Zg9{P:List Value->Prop}(h:∀ a0 a1 a2,P [a0,a1,a2]):∀ us,us.length=3->P us:=ZiA λa0=>ZdD (P:=λus=>P (a0::us)) (h a0)
theorem ZoV{P:List Value->Prop}(h:∀ a0 a1 a2 a3,P [a0,a1,a2,a3]):∀ us,us.length=4->P us:=ZiA λa0=>Zg9 (P:=λus=>P (a0::us)) (h a0)
theorem Zls{P:List Value->Prop}(h:∀ a0 a1 a2 a3 a4,P [a0,a1,a2,a3,a4]):∀ us,us.length=5->P us:=ZiA λa0=>ZoV (P:=λus=>P (a0::us)) (h a0)
theorem Zp0{P:List Value->Prop}(h:∀ a0 a1 a2 a3 a4 a5,P [a0,a1,a2,a3,a4,a5]):∀ us,us.length=6->P us:=ZiA λa0=>Zls (P:=λus=>P (a0::us)) (h a0)
theorem Zkq:∀ (us:List Value),us.length=1->∃ a0,us=[a0]:=ZgA λa0=>⟨a0,rfl⟩
theorem Zh6:∀ (us:List Value),us.length=2->∃ a0 a1,us=[a0,a1]:=ZdD λa0 a1=>⟨a0,a1,rfl⟩
theorem ZoW:∀ (us:List Value),us.length=3->∃ a0 a1 a2,us=[a0,a1,a2]:=Zg9 λa0 a1 a2=>⟨a0,a1,a2,rfl⟩
abbrev fO (x:Str)(s:Stmt)(kV dc pm:Value)(an:Option Addr)(cd ct:Value):=PySem.W.fnOf x x (defArgs s) (defBody s) (defScope s) .none kV dc pm an cd ct
theorem ZoX{l:PySem.W.OpenLaw}{w:World}{K:W.Frag}{h:Heap}{mg:Str->Option Value}{fa:Addr}(X:K.In h)(G:h.Ns mainGlobals mg)(hfa:mg "law" = some (.ref fa))
  {t_LEAST_BASE:Tok} (g_LEAST_BASE:W.nsIn K mainGlobals "LEAST_BASE" = some (some (.int 2 t_LEAST_BASE)))
  {t_GREATEST_BASE:Tok} (g_GREATEST_BASE:W.nsIn K mainGlobals "GREATEST_BASE" = some (some (.int 5 t_GREATEST_BASE)))
  {t_MOST_ROOMS:Tok} (g_MOST_ROOMS:W.nsIn K mainGlobals "MOST_ROOMS" = some (some (.int 100 t_MOST_ROOMS)))
  {t_MOST_LETTERS:Tok} (g_MOST_LETTERS:W.nsIn K mainGlobals "MOST_LETTERS" = some (some (.int 64 t_MOST_LETTERS)))
  {t_MOST_NAMES:Tok} (g_MOST_NAMES:W.nsIn K mainGlobals "MOST_NAMES" = some (some (.int 4 t_MOST_NAMES)))
  (z_enumerate:W.nsIn K mainGlobals "enumerate" = some none)
  (z_len:W.nsIn K mainGlobals "len" = some none)
  (z_max:W.nsIn K mainGlobals "max" = some none)
  (z_min:W.nsIn K mainGlobals "min" = some none)
  (z_range:W.nsIn K mainGlobals "range" = some none)
  (z_set:W.nsIn K mainGlobals "set" = some none)
  (z_sorted:W.nsIn K mainGlobals "sorted" = some none)
  (z_tuple:W.nsIn K mainGlobals "tuple" = some none)
  
  (a0:W.nsIn K mainGlobals "met_from" = some (some (.ref f0))) (l0:K.lookup f0=some ⟨oc0,od0,.func (fO "met_from" ZdA kV0 dc0 pm0 an0 cd0 ct0),sl0⟩) (c0:W.codeIn K cd0 "met_from" = true) (k0:W.keepIn K (.ref f0)=true)
  
  (a1:W.nsIn K mainGlobals "machine_met" = some (some (.ref f1))) (l1:K.lookup f1=some ⟨oc1,od1,.func (fO "machine_met" Zb1 kV1 dc1 pm1 an1 cd1 ct1),sl1⟩) (c1:W.codeIn K cd1 "machine_met" = true) (k1:W.keepIn K (.ref f1)=true)
  
  (a2:W.nsIn K mainGlobals "reached_by" = some (some (.ref f2))) (l2:K.lookup f2=some ⟨oc2,od2,.func (fO "reached_by" Zau kV2 dc2 pm2 an2 (.ref q2) ct2),sl2⟩) (c2:W.codeIn K (.ref q2) "reached_by" = true) (k2:W.keepIn K (.ref f2)=true) (m2:W.codeHdIn K q2 ZaE=true)
  
  (a3:W.nsIn K mainGlobals "first_equals" = some (some (.ref f3))) (l3:K.lookup f3=some ⟨oc3,od3,.func (fO "first_equals" ZbS kV3 dc3 pm3 an3 cd3 ct3),sl3⟩) (c3:W.codeIn K cd3 "first_equals" = true) (k3:W.keepIn K (.ref f3)=true)
  
  (a4:W.nsIn K mainGlobals "parted" = some (some (.ref f4))) (l4:K.lookup f4=some ⟨oc4,od4,.func (fO "parted" Zfr kV4 dc4 pm4 an4 cd4 ct4),sl4⟩) (c4:W.codeIn K cd4 "parted" = true) (k4:W.keepIn K (.ref f4)=true)
  
  (a5:W.nsIn K mainGlobals "first_alike" = some (some (.ref f5))) (l5:K.lookup f5=some ⟨oc5,od5,.func (fO "first_alike" Zb2 kV5 dc5 pm5 an5 cd5 ct5),sl5⟩) (c5:W.codeIn K cd5 "first_alike" = true) (k5:W.keepIn K (.ref f5)=true)
  
  (a6:W.nsIn K mainGlobals "least" = some (some (.ref f6))) (l6:K.lookup f6=some ⟨oc6,od6,.func (fO "least" ZgP kV6 dc6 pm6 an6 cd6 ct6),sl6⟩) (c6:W.codeIn K cd6 "least" = true) (k6:W.keepIn K (.ref f6)=true)
  
  (a7:W.nsIn K mainGlobals "least_met" = some (some (.ref f7))) (l7:K.lookup f7=some ⟨oc7,od7,.func (fO "least_met" ZcX kV7 dc7 pm7 an7 cd7 ct7),sl7⟩) (c7:W.codeIn K cd7 "least_met" = true) (k7:W.keepIn K (.ref f7)=true)
  
  (a8:W.nsIn K mainGlobals "want_base" = some (some (.ref f8))) (l8:K.lookup f8=some ⟨oc8,od8,.func (fO "want_base" ZcY kV8 dc8 pm8 an8 cd8 ct8),sl8⟩) (c8:W.codeIn K cd8 "want_base" = true) (k8:W.keepIn K (.ref f8)=true)
  
  {T9:Addr} {oq9:Value} {oe9:Option Addr} {sq9:Array (Option Value)} {tk9:Tok} {nq9:Nat}
  (a9:W.nsIn K mainGlobals "figures_of" = some (some (.ref f9))) (l9:K.lookup f9=some ⟨oc9,od9,.func (PySem.W.fnOf "figures_of" "figures_of" (defArgs Zbn) (defBody Zbn) (defScope Zbn) (.ref T9) kV9 dc9 pm9 an9 cd9 ct9),sl9⟩)
  (d9:K.lookup T9=some ⟨oq9,oe9,.seq #[.int 2 tk9] nq9,sq9⟩) (c9:W.codeIn K cd9 "figures_of" = true) (k9:W.keepIn K (.ref f9)=true)
  
  {T10:Addr} {oq10:Value} {oe10:Option Addr} {sq10:Array (Option Value)} {tk10:Tok} {nq10:Nat}
  (a10:W.nsIn K mainGlobals "number_of" = some (some (.ref f10))) (l10:K.lookup f10=some ⟨oc10,od10,.func (PySem.W.fnOf "number_of" "number_of" (defArgs ZbE) (defBody ZbE) (defScope ZbE) (.ref T10) kV10 dc10 pm10 an10 cd10 ct10),sl10⟩)
  (d10:K.lookup T10=some ⟨oq10,oe10,.seq #[.int 2 tk10] nq10,sq10⟩) (c10:W.codeIn K cd10 "number_of" = true) (k10:W.keepIn K (.ref f10)=true)
  
  (a11:W.nsIn K mainGlobals "filled" = some (some (.ref f11))) (l11:K.lookup f11=some ⟨oc11,od11,.func (fO "filled" Zfs kV11 dc11 pm11 an11 cd11 ct11),sl11⟩) (c11:W.codeIn K cd11 "filled" = true) (k11:W.keepIn K (.ref f11)=true)
  
  {T12:Addr} {oq12:Value} {oe12:Option Addr} {sq12:Array (Option Value)} {tk12:Tok} {nq12:Nat}
  (a12:W.nsIn K mainGlobals "code_of" = some (some (.ref f12))) (l12:K.lookup f12=some ⟨oc12,od12,.func (PySem.W.fnOf "code_of" "code_of" (defArgs Zcp) (defBody Zcp) (defScope Zcp) (.ref T12) kV12 dc12 pm12 an12 cd12 ct12),sl12⟩)
  (d12:K.lookup T12=some ⟨oq12,oe12,.seq #[.int 2 tk12] nq12,sq12⟩) (c12:W.codeIn K cd12 "code_of" = true) (k12:W.keepIn K (.ref f12)=true)
  
  {T13:Addr} {oq13:Value} {oe13:Option Addr} {sq13:Array (Option Value)} {tk13:Tok} {nq13:Nat}
  (a13:W.nsIn K mainGlobals "column_of" = some (some (.ref f13))) (l13:K.lookup f13=some ⟨oc13,od13,.func (PySem.W.fnOf "column_of" "column_of" (defArgs ZbF) (defBody ZbF) (defScope ZbF) (.ref T13) kV13 dc13 pm13 an13 cd13 ct13),sl13⟩)
  (d13:K.lookup T13=some ⟨oq13,oe13,.seq #[.int 2 tk13] nq13,sq13⟩) (c13:W.codeIn K cd13 "column_of" = true) (k13:W.keepIn K (.ref f13)=true)
  
  (a14:W.nsIn K mainGlobals "letters_for" = some (some (.ref f14))) (l14:K.lookup f14=some ⟨oc14,od14,.func (fO "letters_for" Zb3 kV14 dc14 pm14 an14 cd14 ct14),sl14⟩) (c14:W.codeIn K cd14 "letters_for" = true) (k14:W.keepIn K (.ref f14)=true)
  
  (a15:W.nsIn K mainGlobals "rising" = some (some (.ref f15))) (l15:K.lookup f15=some ⟨oc15,od15,.func (fO "rising" Zft kV15 dc15 pm15 an15 cd15 ct15),sl15⟩) (c15:W.codeIn K cd15 "rising" = true) (k15:W.keepIn K (.ref f15)=true)
  
  (a16:W.nsIn K mainGlobals "want_width" = some (some (.ref f16))) (l16:K.lookup f16=some ⟨oc16,od16,.func (fO "want_width" Zcq kV16 dc16 pm16 an16 cd16 ct16),sl16⟩) (c16:W.codeIn K cd16 "want_width" = true) (k16:W.keepIn K (.ref f16)=true)
  
  (a17:W.nsIn K mainGlobals "codes_within" = some (some (.ref f17))) (l17:K.lookup f17=some ⟨oc17,od17,.func (fO "codes_within" ZbT kV17 dc17 pm17 an17 cd17 ct17),sl17⟩) (c17:W.codeIn K cd17 "codes_within" = true) (k17:W.keepIn K (.ref f17)=true)
  
  (a18:W.nsIn K mainGlobals "paired" = some (some (.ref f18))) (l18:K.lookup f18=some ⟨oc18,od18,.func (fO "paired" Za5 kV18 dc18 pm18 an18 (.ref q18) ct18),sl18⟩) (c18:W.codeIn K (.ref q18) "paired" = true) (k18:W.keepIn K (.ref f18)=true) (m18:W.codeHdIn K q18 Zbc=true)
  
  (a19:W.nsIn K mainGlobals "codes_by_rest" = some (some (.ref f19))) (l19:K.lookup f19=some ⟨oc19,od19,.func (fO "codes_by_rest" ZbG kV19 dc19 pm19 an19 cd19 ct19),sl19⟩) (c19:W.codeIn K cd19 "codes_by_rest" = true) (k19:W.keepIn K (.ref f19)=true)
  
  (a20:W.nsIn K mainGlobals "led_rooms" = some (some (.ref f20))) (l20:K.lookup f20=some ⟨oc20,od20,.func (fO "led_rooms" Zc1 kV20 dc20 pm20 an20 cd20 ct20),sl20⟩) (c20:W.codeIn K cd20 "led_rooms" = true) (k20:W.keepIn K (.ref f20)=true)
  
  (a21:W.nsIn K mainGlobals "first_rooms" = some (some (.ref f21))) (l21:K.lookup f21=some ⟨oc21,od21,.func (fO "first_rooms" Zb4 kV21 dc21 pm21 an21 cd21 ct21),sl21⟩) (c21:W.codeIn K cd21 "first_rooms" = true) (k21:W.keepIn K (.ref f21)=true)
  
  (a22:W.nsIn K mainGlobals "without" = some (some (.ref f22))) (l22:K.lookup f22=some ⟨oc22,od22,.func (fO "without" Zbp kV22 dc22 pm22 an22 (.ref q22) ct22),sl22⟩) (c22:W.codeIn K (.ref q22) "without" = true) (k22:W.keepIn K (.ref f22)=true) (m22:W.codeHdIn K q22 Zbj=true)
  
  (a23:W.nsIn K mainGlobals "some" = some (some (.ref f23))) (l23:K.lookup f23=some ⟨oc23,od23,.func (fO "some" ZdG kV23 dc23 pm23 an23 (.ref q23) ct23),sl23⟩) (c23:W.codeIn K (.ref q23) "some" = true) (k23:W.keepIn K (.ref f23)=true) (m23:W.codeHdIn K q23 Zc4=true)
  
  (a24:W.nsIn K mainGlobals "every" = some (some (.ref f24))) (l24:K.lookup f24=some ⟨oc24,od24,.func (fO "every" Zcs kV24 dc24 pm24 an24 (.ref q24) ct24),sl24⟩) (c24:W.codeIn K (.ref q24) "every" = true) (k24:W.keepIn K (.ref f24)=true) (m24:W.codeHdIn K q24 Zb6=true)
  
  (a25:W.nsIn K mainGlobals "joined" = some (some (.ref f25))) (l25:K.lookup f25=some ⟨oc25,od25,.func (fO "joined" Zfz kV25 dc25 pm25 an25 cd25 ct25),sl25⟩) (c25:W.codeIn K cd25 "joined" = true) (k25:W.keepIn K (.ref f25)=true)
  
  (a26:W.nsIn K mainGlobals "both" = some (some (.ref f26))) (l26:K.lookup f26=some ⟨oc26,od26,.func (fO "both" ZdH kV26 dc26 pm26 an26 (.ref q26) ct26),sl26⟩) (c26:W.codeIn K (.ref q26) "both" = true) (k26:W.keepIn K (.ref f26)=true) (m26:W.codeHdIn K q26 Zc5=true)
  
  (a27:W.nsIn K mainGlobals "either" = some (some (.ref f27))) (l27:K.lookup f27=some ⟨oc27,od27,.func (fO "either" ZbR kV27 dc27 pm27 an27 (.ref q27) ct27),sl27⟩) (c27:W.codeIn K (.ref q27) "either" = true) (k27:W.keepIn K (.ref f27)=true) (m27:W.codeHdIn K q27 ZbH=true)
  
  (a28:W.nsIn K mainGlobals "no" = some (some (.ref f28))) (l28:K.lookup f28=some ⟨oc28,od28,.func (fO "no" s_no kV28 dc28 pm28 an28 cd28 ct28),sl28⟩) (c28:W.codeIn K cd28 "no" = true) (k28:W.keepIn K (.ref f28)=true)
  
  (a29:W.nsIn K mainGlobals "_law_cell" = some (some (.ref f29))) (l29:K.lookup f29=some ⟨oc29,od29,.func (fO "_law_cell" ZdB kV29 dc29 pm29 an29 cd29 ct29),sl29⟩) (c29:W.codeIn K cd29 "_law_cell" = true) (k29:W.keepIn K (.ref f29)=true)
  
  (a30:W.nsIn K mainGlobals "_law_drawn" = some (some (.ref f30))) (l30:K.lookup f30=some ⟨oc30,od30,.func (fO "_law_drawn" Zc3 kV30 dc30 pm30 an30 cd30 ct30),sl30⟩) (c30:W.codeIn K cd30 "_law_drawn" = true) (k30:W.keepIn K (.ref f30)=true)
   (aL:W.nsIn K mainGlobals "law" = some (some (.ref fL))) (lL:K.lookup fL=some ⟨ocL,odL,.func (fO "law" Zla kVL dcL pmL anL cdL ctL),slL⟩) (cL:W.codeIn K cdL "law" = true) (kL:W.keepIn K (.ref fL)=true) :
  ∃ fd:FuncData,(∀ (s:Shared) (v:Value),BindsTo s fd ⟨[v],[]⟩ [("_law_script",v)])/\∀ base:Heap,K.In base->base.Ns mainGlobals mg->base.BuiltinsAt mg mainGlobals->FnOk l.prog w K mg base CX0 11 fa fd ["_law_script"] (Zd9 K):=by
 have e:=hfa.symm.trans (PySem.W.mg_of X G aL)
 cases e
 have T:Txt K mg:=⟨Zf3 X G g_LEAST_BASE,
  Zf3 X G g_GREATEST_BASE,
  Zf3 X G g_MOST_ROOMS,
  Zf3 X G g_MOST_LETTERS,
  Zf3 X G g_MOST_NAMES,
  PySem.W.mg_none_of X G z_enumerate,
  PySem.W.mg_none_of X G z_len,
  PySem.W.mg_none_of X G z_max,
  PySem.W.mg_none_of X G z_min,
  PySem.W.mg_none_of X G z_range,
  PySem.W.mg_none_of X G z_set,
  PySem.W.mg_none_of X G z_sorted,
  PySem.W.mg_none_of X G z_tuple,
  ZbU X G a0 l0 c0 k0 (ZoV λ_ _ _ _=>rfl),
  ZbU X G a1 l1 c1 k1 (Zls λ_ _ _ _ _=>rfl),
  ⟨q2,Zea X G a2 l2 c2 k2 m2 (ZdD λ_ _=>rfl)⟩,
  ZbU X G a3 l3 c3 k3 (ZgA λ_=>rfl),
  ZbU X G a4 l4 c4 k4 (ZdD λ_ _=>rfl),
  ZbU X G a5 l5 c5 k5 (ZgA λ_=>rfl),
  ZbU X G a6 l6 c6 k6 (ZgA λ_=>rfl),
  ZbU X G a7 l7 c7 k7 (Zls λ_ _ _ _ _=>rfl),
  ZbU X G a8 l8 c8 k8 (ZgA λ_=>rfl),
  Zhk X G a9 l9 d9 c9 k9 (λs us KX hl=>by obtain⟨_,_,rfl⟩:=Zh6 us (by simpa using hl);exact PySem.W.binds_K KX rfl d9 rfl rfl rfl) (λs us KX hl=>by obtain⟨_,rfl⟩:=Zkq us (by simpa using hl);exact PySem.W.binds_K KX rfl d9 rfl rfl rfl),
  Zhk X G a10 l10 d10 c10 k10 (λs us KX hl=>by obtain⟨_,_,rfl⟩:=Zh6 us (by simpa using hl);exact PySem.W.binds_K KX rfl d10 rfl rfl rfl) (λs us KX hl=>by obtain⟨_,rfl⟩:=Zkq us (by simpa using hl);exact PySem.W.binds_K KX rfl d10 rfl rfl rfl),
  ZbU X G a11 l11 c11 k11 (ZdD λ_ _=>rfl),
  Zhk X G a12 l12 d12 c12 k12 (λs us KX hl=>by obtain⟨_,_,rfl⟩:=Zh6 us (by simpa using hl);exact PySem.W.binds_K KX rfl d12 rfl rfl rfl) (λs us KX hl=>by obtain⟨_,rfl⟩:=Zkq us (by simpa using hl);exact PySem.W.binds_K KX rfl d12 rfl rfl rfl),
  Zhk X G a13 l13 d13 c13 k13 (λs us KX hl=>by obtain⟨_,_,_,rfl⟩:=ZoW us (by simpa using hl);exact PySem.W.binds_K KX rfl d13 rfl rfl rfl) (λs us KX hl=>by obtain⟨_,_,rfl⟩:=Zh6 us (by simpa using hl);exact PySem.W.binds_K KX rfl d13 rfl rfl rfl),
  ZbU X G a14 l14 c14 k14 (ZdD λ_ _=>rfl),
  ZbU X G a15 l15 c15 k15 (ZgA λ_=>rfl),
  ZbU X G a16 l16 c16 k16 (ZdD λ_ _=>rfl),
  ZbU X G a17 l17 c17 k17 (Zg9 λ_ _ _=>rfl),
  ⟨q18,Zea X G a18 l18 c18 k18 m18 (Zp0 λ_ _ _ _ _ _=>rfl)⟩,
  ZbU X G a19 l19 c19 k19 (Zg9 λ_ _ _=>rfl),
  ZbU X G a20 l20 c20 k20 (Zg9 λ_ _ _=>rfl),
  ZbU X G a21 l21 c21 k21 (ZdD λ_ _=>rfl),
  ⟨q22,Zea X G a22 l22 c22 k22 m22 (Zg9 λ_ _ _=>rfl)⟩,
  ⟨q23,Zea X G a23 l23 c23 k23 m23 (ZdD λ_ _=>rfl)⟩,
  ⟨q24,Zea X G a24 l24 c24 k24 m24 (ZdD λ_ _=>rfl)⟩,
  ZbU X G a25 l25 c25 k25 (Zg9 λ_ _ _=>rfl),
  ⟨q26,Zea X G a26 l26 c26 k26 m26 (ZdD λ_ _=>rfl)⟩,
  ⟨q27,Zea X G a27 l27 c27 k27 m27 (ZdD λ_ _=>rfl)⟩,
  ZbU X G a28 l28 c28 k28 (ZgA λ_=>rfl),
  ZbU X G a29 l29 c29 k29 (ZdD λ_ _=>rfl),
  ZbU X G a30 l30 c30 k30 (Zls λ_ _ _ _ _=>rfl)⟩
 exact⟨fO "law" Zla kVL dcL pmL anL cdL ctL,λs v=>.of_eq rfl,λbase _ _ B=>ZoU T B (λ_ h=>h) ⟨⟨ocL,odL,kVL,dcL,pmL,anL,cdL,ctL,slL,rfl,lL,cL⟩,kL⟩⟩
theorem walk{l:PySem.W.OpenLaw}{q:Program}{loose:List Str}{XP:(Str->Option Value)->Heap->Prop}{YP:World->Heap->Prop}{d:DefRec}{K:Params->W.Frag}(hn:l.most=some 63)(hdf:d.params.defaults=[])
  (hY:∀ (w:World) (h:Heap),YP w h->(K w.params).In h) (hYt:∀ (w:World) (h:Heap),YP w h->∀ p∈ts0,h.get? p.1=some (PySem.W.tabObj #[])) (hK:∀ (w:World) (p:Addr×(Nat->Nat->Str)),p∈ts0->(K w.params).lookup p.1=none/\∃ c,PySem.W.codeHdIn (K w.params) c p.1=true)
  (F:∀ (w:World) (mg:Str->Option Value) (fa:Addr) (h:Heap),(K w.params).In h->h.Ns mainGlobals mg->mg d.name=some (.ref fa) ->
   ∃ fd:FuncData,(∀ (s:Shared) (u:Value),BindsTo s fd ⟨[u],[]⟩ [("_law_script",u)])/\∀ base:Heap,(K w.params).In base->base.Ns mainGlobals mg->base.BuiltinsAt mg mainGlobals->FnOk l.prog w (K w.params) mg base CX0 11 fa fd ["_law_script"] (Zd9 (K w.params))) :
  PySem.W.WalkO q loose XP YP l.row.toRowW d [] (λf vs=>PySem.call f vs) :=
 L2.ZkV (ts:=ts0) (n:=63) (k:=11) (x := "_law_script") (CX:=λ_=>CX0) (sp:=λw=>Zd9 (K w.params)) (by decide) hn (by decide) hdf ⟨rfl,by decide,by decide⟩ hY hYt hK F (λ_ _ a ns hl hb hT hS=>⟨hT,a,ns,rfl,hS,hl,hb,λ_ m=>⟨rfl,m⟩⟩) λ_ _ _ _ _ z=>z
theorem Zew{K:W.Frag}{f q:Addr}{oc kV dc pm ct:Value}{od an:Option Addr}{sl:Array (Option Value)}(a:W.nsIn K mainGlobals "reached_by" = some (some (.ref f)))(l:K.lookup f=some ⟨oc,od,.func (fO "reached_by" Zau kV dc pm an (.ref q) ct),sl⟩)(m:W.codeHdIn K q ZaE=true):∃ c,W.codeHdIn K c ZaE=true:=⟨q,m⟩
theorem Zha{K:W.Frag}{f q:Addr}{oc kV dc pm ct:Value}{od an:Option Addr}{sl:Array (Option Value)}(a:W.nsIn K mainGlobals "paired" = some (some (.ref f)))(l:K.lookup f=some ⟨oc,od,.func (fO "paired" Za5 kV dc pm an (.ref q) ct),sl⟩)(m:W.codeHdIn K q Zbc=true):∃ c,W.codeHdIn K c Zbc=true:=⟨q,m⟩
theorem ZgB{K:W.Frag}{f q:Addr}{oc kV dc pm ct:Value}{od an:Option Addr}{sl:Array (Option Value)}(a:W.nsIn K mainGlobals "without" = some (some (.ref f)))(l:K.lookup f=some ⟨oc,od,.func (fO "without" Zbp kV dc pm an (.ref q) ct),sl⟩)(m:W.codeHdIn K q Zbj=true):∃ c,W.codeHdIn K c Zbj=true:=⟨q,m⟩
theorem Zkr{K:W.Frag}{f q:Addr}{oc kV dc pm ct:Value}{od an:Option Addr}{sl:Array (Option Value)}(a:W.nsIn K mainGlobals "some" = some (some (.ref f)))(l:K.lookup f=some ⟨oc,od,.func (fO "some" ZdG kV dc pm an (.ref q) ct),sl⟩)(m:W.codeHdIn K q Zc4=true):∃ c,W.codeHdIn K c Zc4=true:=⟨q,m⟩
theorem ZiB{K:W.Frag}{f q:Addr}{oc kV dc pm ct:Value}{od an:Option Addr}{sl:Array (Option Value)}(a:W.nsIn K mainGlobals "every" = some (some (.ref f)))(l:K.lookup f=some ⟨oc,od,.func (fO "every" Zcs kV dc pm an (.ref q) ct),sl⟩)(m:W.codeHdIn K q Zb6=true):∃ c,W.codeHdIn K c Zb6=true:=⟨q,m⟩
theorem Zks{K:W.Frag}{f q:Addr}{oc kV dc pm ct:Value}{od an:Option Addr}{sl:Array (Option Value)}(a:W.nsIn K mainGlobals "both" = some (some (.ref f)))(l:K.lookup f=some ⟨oc,od,.func (fO "both" ZdH kV dc pm an (.ref q) ct),sl⟩)(m:W.codeHdIn K q Zc5=true):∃ c,W.codeHdIn K c Zc5=true:=⟨q,m⟩
theorem Zhb{K:W.Frag}{f q:Addr}{oc kV dc pm ct:Value}{od an:Option Addr}{sl:Array (Option Value)}(a:W.nsIn K mainGlobals "either" = some (some (.ref f)))(l:K.lookup f=some ⟨oc,od,.func (fO "either" ZbR kV dc pm an (.ref q) ct),sl⟩)(m:W.codeHdIn K q ZbH=true):∃ c,W.codeHdIn K c ZbH=true:=⟨q,m⟩
end K42
namespace PySem.W.Fast
theorem tw3185914156214265080:True:=⟨⟩
theorem tw1000026443422727254:True:=⟨⟩
theorem tw10891930236952849272:True:=⟨⟩
theorem tw3107984925060526508:True:=⟨⟩
theorem tw7185893879322442770:True:=⟨⟩
theorem tw18282703815138923440:True:=⟨⟩
theorem tw11386409190417031230:True:=⟨⟩
theorem tw7871576620476528332:True:=⟨⟩
theorem tw3279451054581216528:True:=⟨⟩
theorem tw9654297443195437838:True:=⟨⟩
theorem tw2640519446396809640:True:=⟨⟩
theorem tw8537040934125957319:True:=⟨⟩
theorem tw12815615818517482095:True:=⟨⟩
theorem tw13963268023399112968:True:=⟨⟩
theorem tw14727396541687227131:True:=⟨⟩
theorem tw11254974769118295062:True:=⟨⟩
theorem tw13094508222277961696:True:=⟨⟩
theorem tw15649460111328772600:True:=⟨⟩
theorem tw16413162961737130128:True:=⟨⟩
theorem tw7868397032945078655:True:=⟨⟩
theorem tw6937339871984910940:True:=⟨⟩
theorem tw17859008390567337437:True:=⟨⟩
theorem tw380218969847178264:True:=⟨⟩
theorem tw9169863512538076271:True:=⟨⟩
theorem tw7620023613581497400:True:=⟨⟩
theorem tw901287702189359555:True:=⟨⟩
theorem tw2873299253615401107:True:=⟨⟩
theorem tw3253781283206616615:True:=⟨⟩
theorem tw2516357689434630205:True:=⟨⟩
theorem tw2359018766782065673:True:=⟨⟩
theorem tw10807616015255283659:True:=⟨⟩
theorem tw10342813312339987612:True:=⟨⟩
theorem tw11361704143062732377:True:=⟨⟩
theorem tw10981443544876758173:True:=⟨⟩
theorem tw8577391966005023674:True:=⟨⟩
theorem tw12081262358348327907:True:=⟨⟩
theorem tw2358393321413496484:True:=⟨⟩
theorem tw14669405971183318286:True:=⟨⟩
theorem tw14321483493871690390:True:=⟨⟩
theorem tw8306020710993480097:True:=⟨⟩
theorem tw17319532343174288191:True:=⟨⟩
theorem tw2702945868560432774:True:=⟨⟩
theorem tw2692555027025032341:True:=⟨⟩
theorem tw6691892174781816484:True:=⟨⟩
theorem tw17840711568223640035:True:=⟨⟩
theorem tw6142739356209898874:True:=⟨⟩
theorem tw5682026388899937850:True:=⟨⟩
theorem tw23807596928329387:True:=⟨⟩
theorem tw4893661543736631781:True:=⟨⟩
theorem tw5204164607774001106:True:=⟨⟩
theorem tw17957660540748258431:True:=⟨⟩
theorem tw6972794987232474161:True:=⟨⟩
theorem tw107080930616961508:True:=⟨⟩
theorem tw1583785995644116543:True:=⟨⟩
theorem tw17460277704590776046:True:=⟨⟩
theorem tw10562955298324681241:True:=⟨⟩
theorem tw3868609780849459410:True:=⟨⟩
theorem tw4966506056961201720:True:=⟨⟩
theorem tw16979154125313693332:True:=⟨⟩
theorem tw16083736266871730430:True:=⟨⟩
theorem tw15612456474874521756:True:=⟨⟩
theorem tw15614823082372696664:True:=⟨⟩
theorem tw9831492739119633789:True:=⟨⟩
theorem tw367146003249988842:True:=⟨⟩
theorem tw17097554272155157174:True:=⟨⟩
theorem tw12621404360731145252:True:=⟨⟩
theorem tw712294964195420127:True:=⟨⟩
theorem tw10502781535549412194:True:=⟨⟩
theorem tw8703905027577549803:True:=⟨⟩
theorem tw1980276366115541699:True:=⟨⟩
theorem tw13161375730292773983:True:=⟨⟩
theorem tw4339102534380531969:True:=⟨⟩
theorem tw14403067111952763772:True:=⟨⟩
theorem tw13276097817622392563:True:=⟨⟩
theorem tw12001838655484292248:True:=⟨⟩
theorem tw12139646048270036510:True:=⟨⟩
theorem tw13953343788296208723:True:=⟨⟩
theorem tw9543723474610146514:True:=⟨⟩
theorem tw13802443439493955619:True:=⟨⟩
theorem tw14655396693342535266:True:=⟨⟩
theorem tw17407495811747252771:True:=⟨⟩
theorem tw260974188859638430:True:=⟨⟩
theorem tw6758754319051334839:True:=⟨⟩
theorem tw14004602617028575358:True:=⟨⟩
theorem tw17637804616433244539:True:=⟨⟩
theorem tw5611350524681507417:True:=⟨⟩
theorem tw5938607300742449431:True:=⟨⟩
theorem tw12980133143104853850:True:=⟨⟩
theorem tw10526505496579335062:True:=⟨⟩
theorem tw13300214175676957127:True:=⟨⟩
theorem tw15509387304325489260:True:=⟨⟩
theorem tw16238109302465335992:True:=⟨⟩
theorem tw11189561824963986665:True:=⟨⟩
theorem tw13534078415254216483:True:=⟨⟩
theorem tw3717506145843690568:True:=⟨⟩
theorem tw8217776454622462205:True:=⟨⟩
theorem tw8990082014701363467:True:=⟨⟩
theorem tw6687761921728086970:True:=⟨⟩
theorem tw4704097529173313742:True:=⟨⟩
theorem tw10962339405873597941:True:=⟨⟩
theorem tw7652017979444436717:True:=⟨⟩
theorem tw4143779172991519701:True:=⟨⟩
theorem tw2418313652691314715:True:=⟨⟩
theorem tw12956298219144161853:True:=⟨⟩
theorem tw10994623900954693007:True:=⟨⟩
theorem tw6950396971377992343:True:=⟨⟩
theorem tw8586061756582684432:True:=⟨⟩
theorem tw6232172122822373880:True:=⟨⟩
theorem tw4057390184652329335:True:=⟨⟩
theorem tw16471370830570415840:True:=⟨⟩
theorem tw8552155931418999097:True:=⟨⟩
theorem tw15383110747280290185:True:=⟨⟩
theorem tw8071571173013150488:True:=⟨⟩
theorem tw18098440314972856681:True:=⟨⟩
theorem tw14579957564488387524:True:=⟨⟩
theorem tw10802858935044327921:True:=⟨⟩
end PySem.W.Fast
open PySem PySem.W PyProof.Rows
set_option maxRecDepth 100000 in
set_option maxHeartbeats 0 in
theorem PySem.Challenge.cw_figurewheel_k42_every_and_some_holds : PySem.Challenge.rw_figurewheel_k42_every_and_some.Holds := by
 w_on;o_law;k_head;(case hw=>w_witness2)
 k_fill
 refine' K42.walk (l:=PySem.Challenge.rw_figurewheel_k42_every_and_some) rfl rfl (fun w h Y=>PySem.W.km_in_of Y) ?hYt ?hK ?F
 case hYt =>
  intro w h Y p hp
  exact PySem.W.km_tabs_of Y p.1 (by revert p;decide)
 case hK =>
  intro w p hp
  simp only[K42.ts0,List.mem_cons,List.not_mem_nil,or_false] at hp
  rcases hp with rfl|rfl|rfl|rfl|rfl|rfl|rfl
  ·refine' ⟨by kernel_rfl,K42.Zew ?a ?l ?m⟩
   (case a=>k_is)
   (case l=>k_is)
   (case m=>kernel_rfl)
  ·refine' ⟨by kernel_rfl,K42.Zha ?a ?l ?m⟩
   (case a=>k_is)
   (case l=>k_is)
   (case m=>kernel_rfl)
  ·refine' ⟨by kernel_rfl,K42.ZgB ?a ?l ?m⟩
   (case a=>k_is)
   (case l=>k_is)
   (case m=>kernel_rfl)
  ·refine' ⟨by kernel_rfl,K42.Zkr ?a ?l ?m⟩
   (case a=>k_is)
   (case l=>k_is)
   (case m=>kernel_rfl)
  ·refine' ⟨by kernel_rfl,K42.ZiB ?a ?l ?m⟩
   (case a=>k_is)
   (case l=>k_is)
   (case m=>kernel_rfl)
  ·refine' ⟨by kernel_rfl,K42.Zks ?a ?l ?m⟩
   (case a=>k_is)
   (case l=>k_is)
   (case m=>kernel_rfl)
  ·refine' ⟨by kernel_rfl,K42.Zhb ?a ?l ?m⟩
   (case a=>k_is)
   (case l=>k_is)
   (case m=>kernel_rfl)
 case F =>
  intro w mg fa h KX G hmg
  refine' K42.ZoX KX G hmg ?g_LEAST_BASE ?g_GREATEST_BASE ?g_MOST_ROOMS ?g_MOST_LETTERS ?g_MOST_NAMES ?z_enumerate ?z_len ?z_max ?z_min ?z_range ?z_set ?z_sorted ?z_tuple ?a0 ?l0 ?c0 ?k0 ?a1 ?l1 ?c1 ?k1 ?a2 ?l2 ?c2 ?k2 ?m2 ?a3 ?l3 ?c3 ?k3 ?a4 ?l4 ?c4 ?k4 ?a5 ?l5 ?c5 ?k5 ?a6 ?l6 ?c6 ?k6 ?a7 ?l7 ?c7 ?k7 ?a8 ?l8 ?c8 ?k8 ?a9 ?l9 ?d9 ?c9 ?k9 ?a10 ?l10 ?d10 ?c10 ?k10 ?a11 ?l11 ?c11 ?k11 ?a12 ?l12 ?d12 ?c12 ?k12 ?a13 ?l13 ?d13 ?c13 ?k13 ?a14 ?l14 ?c14 ?k14 ?a15 ?l15 ?c15 ?k15 ?a16 ?l16 ?c16 ?k16 ?a17 ?l17 ?c17 ?k17 ?a18 ?l18 ?c18 ?k18 ?m18 ?a19 ?l19 ?c19 ?k19 ?a20 ?l20 ?c20 ?k20 ?a21 ?l21 ?c21 ?k21 ?a22 ?l22 ?c22 ?k22 ?m22 ?a23 ?l23 ?c23 ?k23 ?m23 ?a24 ?l24 ?c24 ?k24 ?m24 ?a25 ?l25 ?c25 ?k25 ?a26 ?l26 ?c26 ?k26 ?m26 ?a27 ?l27 ?c27 ?k27 ?m27 ?a28 ?l28 ?c28 ?k28 ?a29 ?l29 ?c29 ?k29 ?a30 ?l30 ?c30 ?k30 ?aL ?lL ?cL ?kL
  (case g_LEAST_BASE|g_GREATEST_BASE|g_MOST_ROOMS|g_MOST_LETTERS|g_MOST_NAMES|z_enumerate|z_len|z_max|z_min|z_range|z_set|z_sorted|z_tuple|a0|l0|c0|k0|a1|l1|c1|k1|a2|l2|c2|k2 =>k_is)
  (case m2=>kernel_rfl)
  (case a3|l3|c3|k3|a4|l4|c4|k4|a5|l5|c5|k5|a6|l6|c6|k6|a7|l7|c7|k7|a8|l8|c8|k8|a9|l9|d9|c9|k9|a10|l10|d10|c10|k10|a11|l11|c11|k11|a12|l12|d12|c12|k12|a13|l13|d13|c13|k13|a14|l14|c14|k14|a15|l15|c15|k15|a16|l16|c16|k16|a17|l17|c17|k17|a18|l18|c18|k18 =>k_is)
  (case m18=>kernel_rfl)
  (case a19|l19|c19|k19|a20|l20|c20|k20|a21|l21|c21|k21|a22|l22|c22|k22 =>k_is)
  (case m22=>kernel_rfl)
  (case a23|l23|c23|k23 =>k_is)
  (case m23=>kernel_rfl)
  (case a24|l24|c24|k24 =>k_is)
  (case m24=>kernel_rfl)
  (case a25|l25|c25|k25|a26|l26|c26|k26 =>k_is)
  (case m26=>kernel_rfl)
  (case a27|l27|c27|k27 =>k_is)
  (case m27=>kernel_rfl)
  (case a28|l28|c28|k28|a29|l29|c29|k29|a30|l30|c30|k30|aL|lL|cL|kL =>k_is)
end
