import PyProof.Rows.All
import Wide.All
import OpenK.AllK
import Wide.FinOn
import PyProof.EqAt
import PyProof.EqKinds
import PyProof.TupleCall
import PyProof.ExcBaseAll.ValueError
import PyProof.ExcArgsOwn
import PyProof.ExcInit
import PyProof.InstStoreFacts
import Lean
import PySem.Challenge.RW_figurewheel_k35_whole_equal_roads
set_option linter.all false
set_option Elab.async false
set_option maxRecDepth 100000
set_option maxHeartbeats 4000000
set_option bootstrap.genMatcherCode false
set_option compiler.extract_closed false
open List (any_cons append_nil ext_getElem filterMap_cons filter_cons find?_cons flatten_cons foldl_append forIn_cons forIn_nil getD_eq_getElem?_getD getElem?_eq_getElem getElem?_eq_none getElem?_map getElem?_range getElem_append_left getElem_idxOf getElem_map getElem_mem getElem_range idxOf_append idxOf_cons idxOf_lt_length_of_mem length_cons length_map length_range length_singleton length_take lookup_cons map_append map_congr_left map_cons map_id map_map map_nil mem_append mem_append_left mem_append_right mem_cons mem_cons_of_mem mem_cons_self mem_filter mem_map mem_range mem_singleton nil_append nodup_cons nodup_nil not_mem_nil pairwise_map range_succ replicate_succ reverse_cons size_toArray sum_cons)
namespace PySem
section
variable {prog:Program}{w:World}{KT:Type}[DecidableEq KT](kd:KeyKind prog w KT)
def Yp(h:Heap)(z:KT×List KT)(a:Addr):Prop :=
 ∃ (ob:Obj) (its:Array Value) (c:Nat) (u:Value) (b:Addr),h.get? a=some ob/\ob.cls=.type "tuple" /\ ob.data=.seq its c/\its.toList=[u,.ref b]/\kd.is z.1 u=true/\IsTupleKey kd h z.2 b
def Sr(z:KT×List KT):Int:=reduceHash (Builtin.Tuple.tupleHashOf [kd.hash z.1,tupleKeyHash kd z.2])
variable {kd}
theorem Yp.tp{s:Shared}{z:KT×List KT}{a:Addr}(x:Yp kd s.heap z a):s.TypeIs (.ref a) "tuple" :=
 let ⟨b,_,_,_,_,e,c,_⟩:=x;⟨b,e,c⟩
theorem Yp.one{h:Heap}{a:Addr}{y z:KT×List KT}(g:Yp kd h y a)(hz:Yp kd h z a):y=z:=by
 obtain⟨v,x,B,s,E,p,_,q,f,n,j⟩:=g
 obtain⟨u,w,A,r,C,c,_,e,b,m,i⟩:=hz
 rw[p] at c
 cases c
 rw[q] at e
 cases e
 rw[f] at b
 cases b
 exact Prod.ext (kd.inj _ _ _ n m) (j.inj i)
theorem Yp.stay{h h':Heap}{z:KT×List KT}{a d:Addr}{c:Obj}{es ep}(x:Yp kd h z a)(hd:h.get? d=some c)(b:c.data=.dict es ep)(e:Heap.SameBut d h h'):Yp kd h' z a:=by
 obtain⟨j,p,u,i,v,f,n,g,m,s,r⟩:=x
 have ne:a≠d:=λq=>by
  subst q
  rw[f] at hd
  cases hd
  rw[g] at b
  cases b
 exact⟨j,p,u,i,v,(e.2 a ne).trans f,n,g,m,s,r.keeps hd b e⟩
variable {A:Around}{E:Value->Shared->Prop}{s:Shared}
theorem Lw{z:KT×List KT}{a:Addr}{Q:Int->Shared->Prop}(f:A.units<cLine/\A.in1.units<cLine)(hz:Yp kd s.heap z a)(q:Q (Sr kd z) { s with toks:=s.toks+(z.2.length+3) }) :
  wpAny (model prog w) A (pyHash (.ref a)) Q E s:=by
 have tp:=hz.tp
 obtain⟨r,i,c,u,b,n,_,p,h,m,j⟩:=hz
 unfold pyHash
 unfold pyHashByItsType
 refine wpAny_bind (wpAny_cRoomFor_or (.inr f.1) ?_)
 refine wpAny_bind (wpAny_specialOf tp F.slot_tuple_hash.lookup ?_)
 show wpAny _ A (if (some (Value.builtin "tuple.__hash__") == some Value.none)=true then _ else _) Q E s
 rw[if_neg (by rw[beq_builtin_none];exact Bool.false_ne_true)]
 refine wpAny_bind (wpAny_specialOf tp F.slot_tuple_hash.lookup ?_)
 show wpAny _ A (callSpecialIfBoundUnlessNone? (.ref a) "__hash__" _ >>= _) Q E s
 refine wpAny_bind (wpAny_callSpecialIfBoundUnlessNone?_slot tp F.slot_tuple_hash (wpAny_call_entry F.slot_tuple_hash tp F.entry_tuple_hash ?_ (F.args_tuple_hash_1 _)))
 show wpAny _ _ (Builtin.Tuple.tupleItemsOf (.ref a) >>= _) _ _ s
 refine wpAny_bind (wpAny_tupleItemsOf n p ?_)
 refine wpAny_bind ?_
 rw[<- Array.forIn_toList,h]
 refine wpAny_forIn_list _
  (λrest (e:Array Int) s'=>(rest=[u,.ref b]/\e.toList=[]/\s'=s)\/(rest=[.ref b]/\e.toList=[kd.hash z.1]/\s'={ s with toks:=s.toks+1 })\/(rest=[]/\e.toList=[kd.hash z.1,tupleKeyHash kd z.2]/\s'={ s with toks:=s.toks+(z.2.length+2) }))
  _ ?_ ?_ _ _ (.inl ⟨rfl,rfl,rfl⟩)
 ·rintro x rest e s' (⟨r1,r2,rfl⟩|⟨r1,r2,rfl⟩|⟨r1,_⟩)
  ·cases r1
   refine wpAny_bind (kd.pyHash m ?_)
   first
    | exact wpAny_pure (.inr (.inl ⟨rfl,by simp[r2],rfl⟩))
    | exact wpAny_bind (wpAny_pure (wpAny_pure (.inr (.inl ⟨rfl,by simp[r2],rfl⟩))))
  ·cases r1
   refine wpAny_bind (wpAny_pyHash_tuple f.2 j ?_)
   first
    | exact wpAny_pure (.inr (.inr ⟨rfl,by simp[r2],by simp;omega⟩))
    | exact wpAny_bind (wpAny_pure (wpAny_pure (.inr (.inr ⟨rfl,by simp[r2],by simp;omega⟩))))
  ·cases r1
 ·rintro e s' (⟨r1,_⟩|⟨r1,_⟩|⟨_,r2,rfl⟩)
  ·cases r1
  ·cases r1
  show wpAny _ _ (retInt (Builtin.Tuple.tupleHashOf e.toList)) _ _ _
  rw[r2]
  refine wpAny_ret_mkInt ?_
  unfold Sr reduceHash at q
  generalize Builtin.Tuple.tupleHashOf [kd.hash z.1,tupleKeyHash kd z.2]=g at q
  show wpAny _ A (if (decide (-(2:Int) ^ 63<=g) && decide (g<2 ^ 63))=true then _ else _) Q E _
  split at q<;>rename_i hr
  ·rw[if_pos hr]
   exact wpAny_pure (by simpa [Nat.add_assoc] using q)
  ·rw[if_neg hr]
   exact wpAny_bind (wpAny_rule (wpAny_pure (by simpa [Nat.add_assoc] using q)))
theorem Lx{y z:KT×List KT}{a b:Addr}{R:Fin->Shared->Prop}(M:A.units<cLine)(L:Yp kd s.heap y a)(hz:Yp kd s.heap z b)(q:R (.done (.ret (.bool (decide (y=z))))) s) :
  wpAny (model prog w) A (Builtin.«tuple.__eq__» ⟨[.ref a,.ref b],[]⟩) R E s:=by
 have K:=hz.tp
 obtain⟨Z,v,c1,J,C,T,k1,W,p,Q,O⟩:=L
 obtain⟨Y,u,c2,I,B,S,k2,U,n,P,N⟩:=hz
 show wpAny _ A (isInstance (.ref b) (.type "tuple") >>= _) _ _ s
 refine wpAny_bind (wpAny_isInstance K isSubtype_tuple_tuple ?_)
 simp only[Bool.not_true,Bool.false_eq_true,if_false]
 refine wpAny_bind (wpAny_tupleItemsOf T W ?_)
 refine wpAny_bind (wpAny_tupleItemsOf S U ?_)
 have H:(v.size == u.size)=true:=by
  have G:=congrArg List.length p
  have F:=congrArg List.length n
  rw[Array.length_toList] at G F
  rw[G,F];rfl
 refine wpAny_bind ?_
 rw[p,n]
 refine wpAny_forIn_list _
  (λc r h=>r.1=none/\h=s/\(c=[(J,I),(.ref C,.ref B)]\/(c=[(.ref C,.ref B)]/\y.1=z.1)\/(c=[]/\y=z)))
  _ ?_ ?_ _ _ ⟨rfl,rfl,.inl rfl⟩
 ·rintro x c r h ⟨j,rfl,g|⟨g,m⟩|⟨g,_⟩⟩
  ·cases g
   refine wpAny_bind (kd.eqBool (a:=y.1) (b:=z.1) Q P ?_)
   by_cases f:y.1=z.1
   ·rw[decide_eq_true f]
    simp only[Bool.not_true,Bool.false_eq_true,if_false]
    exact wpAny_pure ⟨rfl,rfl,.inr (.inl ⟨by trivial,f⟩)⟩
   ·rw[decide_eq_false f]
    simp only[Bool.not_false,if_true]
    rw[decide_eq_false (λe=>f (by rw[e]))] at q
    exact wpAny_bind (wpAny_pure (wpAny_pure (wpAny_pure q)))
  ·cases g
   refine wpAny_bind (wpAny_eqBool_tuple M O N ?_)
   by_cases f:y.2=z.2
   ·rw[decide_eq_true f]
    simp only[Bool.not_true,Bool.false_eq_true,if_false]
    exact wpAny_pure ⟨rfl,rfl,.inr (.inr ⟨by trivial,Prod.ext m f⟩)⟩
   ·rw[decide_eq_false f]
    simp only[Bool.not_false,if_true]
    rw[decide_eq_false (λe=>f (by rw[e]))] at q
    exact wpAny_bind (wpAny_pure (wpAny_pure (wpAny_pure q)))
  ·cases g
 ·rintro⟨g,X⟩ h ⟨j,rfl,i|⟨i,_⟩|⟨_,m⟩⟩
  ·cases i
  ·cases i
  simp only at j
  subst j
  refine wpAny_pure ?_
  show R (.done (.ret (.bool (v.size == u.size)))) h
  rw[H]
  rw[decide_eq_true m] at q
  exact q
theorem Ly{y z:KT×List KT}{a b:Addr}{Q:Bool->Shared->Prop}(g:A.units<cLine/\A.in1.units<cLine)(c:Yp kd s.heap y a)(hz:Yp kd s.heap z b)(q:Q (decide (y=z)) s) :
  wpAny (model prog w) A (eqBool (.ref a) (.ref b)) Q E s:=by
 unfold eqBool
 try with_reducible refine wpAny_holding ?_
 show wpAny _ A (if (Value.ref a == Value.ref b)=true then _ else _) Q E s
 by_cases f:(Value.ref a == Value.ref b)=true
 ·rw[if_pos f]
  have e:a=b:=by have:=eq_of_beq f;injection this
  subst e
  have h:=c.one hz
  subst h
  exact wpAny_bind (wpAny_rule (wpAny_pure (by simpa using q)))
 ·rw[if_neg f]
  exact wpAny_bind (wpAny_richCompare_same_room (op:=.Eq) c.tp hz.tp F.slot_tuple_eq (wpAny_call_entry F.slot_tuple_eq c.tp F.entry_tuple_eq (Lx g.2 c hz ⟨_,rfl,(λe=>nomatch e),wpAny_truthy_bool q⟩) (F.args_tuple_eq_2 _ _)) g.1)
theorem Lz{ks:List KT}{a:Addr}{m:Nat}{Q:Bool->Shared->Prop}(f:IsTupleKey kd s.heap ks a)(q:Q true s):wpAny (model prog w) A (eqIsQuiet (m+1) (.ref a)) Q E s:=by
 have tp:=f.typeIs
 obtain⟨y,g,B,j,_,n,i⟩:=f
 unfold eqIsQuiet
 refine wpAny_bind (wpAny_specialOf tp F.slot_tuple_eq.lookup ?_)
 show wpAny _ A (isInstance (.ref a) (.type "tuple") >>= _) _ _ s
 refine wpAny_bind (wpAny_isInstance tp isSubtype_tuple_tuple ?_)
 simp only[Bool.not_true,Bool.false_eq_true,if_false]
 refine wpAny_bind (wpAny_seqItems j n ?_)
 refine wpAny_bind ?_
 show wpAny _ A (forIn g _ _) _ _ s
 rw[<- Array.forIn_toList]
 refine wpAny_forIn_list _ (λb r c=>r.1=none/\c=s/\∀ v∈b,carriedByValue v=true) _ ?_ ?_ _ _ ⟨rfl,rfl,i.byValue⟩
 ·rintro x b r c ⟨e,rfl,al⟩
  rw[eqIsQuiet_byValue _ (al x (.head _))]
  refine wpAny_bind (wpAny_pure ?_)
  simp only[Bool.not_true,Bool.false_eq_true,if_false]
  exact wpAny_pure ⟨rfl,rfl,λv h=>al v (.tail _ h)⟩
 ·rintro⟨u,p⟩ c ⟨e,rfl,_⟩
  simp only at e
  subst e
  exact wpAny_pure q
theorem LA{z:KT×List KT}{a:Addr}{Q:Bool->Shared->Prop}(hz:Yp kd s.heap z a)(q:Q true s):wpAny (model prog w) A (eqIsQuiet 8 (.ref a)) Q E s:=by
 have tp:=hz.tp
 obtain⟨y,j,B,h,g,p,_,u,i,n,m⟩:=hz
 unfold eqIsQuiet
 refine wpAny_bind (wpAny_specialOf tp F.slot_tuple_eq.lookup ?_)
 show wpAny _ A (isInstance (.ref a) (.type "tuple") >>= _) _ _ s
 refine wpAny_bind (wpAny_isInstance tp isSubtype_tuple_tuple ?_)
 simp only[Bool.not_true,Bool.false_eq_true,if_false]
 refine wpAny_bind (wpAny_seqItems p u ?_)
 refine wpAny_bind ?_
 show wpAny _ A (forIn j _ _) _ _ s
 rw[<- Array.forIn_toList,i]
 refine wpAny_forIn_list _ (λb r e=>r.1=none/\e=s/\(b=[h,.ref g]\/b=[.ref g]\/b=[])) _ ?_ ?_ _ _ ⟨rfl,rfl,.inl rfl⟩
 ·rintro x b r e ⟨f,rfl,c|c|c⟩
  ·cases c
   rw[eqIsQuiet_byValue _ (kd.byValue _ _ n)]
   refine wpAny_bind (wpAny_pure ?_)
   simp only[Bool.not_true,Bool.false_eq_true,if_false]
   refine wpAny_pure ⟨rfl,rfl,?_⟩
   exact .inr (.inl (by trivial))
  ·cases c
   refine wpAny_bind (Lz m ?_)
   simp only[Bool.not_true,Bool.false_eq_true,if_false]
   refine wpAny_pure ⟨rfl,rfl,?_⟩
   exact .inr (.inr (by trivial))
  ·cases c
 ·rintro⟨c,v⟩ e ⟨f,rfl,_⟩
  simp only at f
  subst f
  exact wpAny_pure q
end
def WP{prog:Program}{w:World}{KT:Type}[DecidableEq KT](kd:KeyKind prog w KT):HeapKind prog w (KT×List KT) where
 is:=Yp kd
 hash:=Sr kd
 draws:=λz=>z.2.length+3
 room:=λA=>A.units<cLine/\A.in1.units<cLine
 inj:=Yp.one
 keeps:=Yp.stay
 pyHash:=Lw
 eqBool:=Ly
 quiet:=LA
end PySem
namespace HT
open PySem PyProof.Rows
section
variable {prog:Program}{w:World}{A:Around}{E:Value->Shared->Prop}{s:Shared}
theorem LX{t b:Addr}{vs a:List Value}{Q:Value->Shared->Prop}(y:IsTup s.heap t vs.toArray)(hb:IsTup s.heap b a.toArray)(r:vs≠[])
  (h1:a=[]->Q (.ref t) s) (h2:a≠[]->Q (.ref s.heap.objs.size) { s with heap:=s.heap.push { cls:=.type "tuple",data:=.seq (vs++a).toArray } })
  (hsz:vs.length+a.length<=sizeLine):wpAny (model prog w) A (binaryOp .Add (.ref t) (.ref b)) Q E s:=by
 obtain⟨⟨cls,dd,data,sl⟩,m,v,n,u⟩:=id y
 obtain⟨⟨x,i,p,f⟩,c,h,q,g⟩:=id hb
 simp only at v u h g
 subst v u h g
 have e:vs.toArray++a.toArray=(vs++a).toArray:=by simp
 by_cases j:a=[]
 ·exact concat_meets ⟨_,m,rfl⟩ ⟨_,c,rfl⟩ noFill_tuple_add seq_tuple_add PySem.F.slot_tuple_add PySem.F.entry_tuple_add (PySem.F.args_tuple_add_2 _ _)
   (tuple_addW1 t b vs.toArray a.toArray n q dd i sl f (by simpa using r) (by simp[j])) ⟨m,c,h1 j⟩
 ·refine concat_meets ⟨_,m,rfl⟩ ⟨_,c,rfl⟩ noFill_tuple_add seq_tuple_add PySem.F.slot_tuple_add PySem.F.entry_tuple_add (PySem.F.args_tuple_add_2 _ _)
   (tuple_addW2 t b vs.toArray a.toArray n q dd i sl f (by simpa using r) (by simpa using j) (by rw[size_toArray,size_toArray];exact hsz)) ⟨m,c,?_⟩
  rw[e]
  exact h2 j
def sIx(n d:Nat):Option Int->Nat
 | none=>d
 | some v=>if v<0 then (v+(n:Int)).toNat else min v.toNat n
theorem LY(n d:Nat):sIx n d none=d:=rfl
theorem LZ(n d:Nat)(hd:d<=n)(o:Option Int):sIx n d o<=n:=by
 cases o with
 | none=>exact hd
 | some v =>
  show (if v<0 then (v+(n:Int)).toNat else min v.toNat n)<=n
  by_cases a:v<0
  ·rw[if_pos a];omega
  ·rw[if_neg a];exact Nat.min_le_right _ _
theorem Pn(v:Int)(n d:Nat):(if v<0 then max (v+(n:Int)) 0 else min v (n:Int))=((sIx n d (some v):Nat):Int):=by
 show (if v<0 then max (v+(n:Int)) 0 else min v (n:Int))=(((if v<0 then (v+(n:Int)).toNat else min v.toNat n):Nat):Int)
 by_cases a:v<0
 ·simp only[if_pos a];omega
 ·simp only[if_neg a];omega
theorem L0(lo hi:Option Int)(n:Nat):Builtin.Slice.sliceAdjust lo hi 1 (n:Int)=(((sIx n 0 lo:Nat):Int),((sIx n n hi:Nat):Int)):=by
 have a:¬ ((1:Int)<0):=by omega
 unfold Builtin.Slice.sliceAdjust
 simp only[a,if_false]
 refine Prod.ext ?_ ?_
 ·cases lo with
  | none=>rfl
  | some v=>exact Pn v n 0
 ·cases hi with
  | none=>rfl
  | some v=>exact Pn v n n
theorem L5(i j:Nat):Builtin.Slice.slicePlaces (i:Int) (j:Int) 1=j-i:=by
 unfold Builtin.Slice.slicePlaces
 have a:(1:Int) > 0:=by omega
 simp only[a,if_true,Int.ediv_one]
 split<;>omega
theorem Po{v:Value}{o:Option Int}{Q:Option Int->Shared->Prop}(p:IsPart v o)(h:Q o s):wpAny (model prog w) A (Builtin.Slice.slicePartIndex v) Q E s:=by
 cases p with
 | none=>exact slicePart_none h
 | int i t=>exact slicePart_int h
theorem L6{sl:Addr}{e c:Value}{lo hi:Option Int}{n:Nat}{Q:Int×Int×Nat->Shared->Prop}(g:s.heap.IsSliceOf sl e c .none)(pl:IsPart e lo)(f:IsPart c hi)
  (h:Q (((sIx n 0 lo:Nat):Int),1,sIx n n hi-sIx n 0 lo) s):wpAny (model prog w) A (Builtin.Slice.sliceApplied (.ref sl) (pure (n:Int))) Q E s:=by
 obtain⟨j,a,i,b⟩:=id g
 unfold Builtin.Slice.sliceApplied Builtin.Slice.sliceFields
 refine wpAny_bind (wpAny_bind (wpAny_field a b (x:=e) rfl (wpAny_bind (wpAny_field a b (x:=c) rfl (wpAny_bind (wpAny_field a b (x:=.none) rfl (wpAny_pure ?_)))))))
 refine wpAny_bind (slicePart_none ?_)
 show wpAny _ _ (if ((1:Int) == 0)=true then _ else _) _ _ s
 rw[if_neg (by decide)]
 refine wpAny_bind (Po pl (wpAny_bind (Po f (wpAny_bind (wpAny_pure ?_)))))
 show wpAny _ _ (match Builtin.Slice.sliceAdjust lo hi 1 (n:Int) with|(lo,hi)=>pure (lo,(1:Int),Builtin.Slice.slicePlaces lo hi 1)) _ _ s
 rw[L0 lo hi n]
 show wpAny _ _ (pure (((sIx n 0 lo:Nat):Int),(1:Int),Builtin.Slice.slicePlaces ((sIx n 0 lo:Nat):Int) ((sIx n n hi:Nat):Int) 1)) _ _ s
 rw[L5]
 exact wpAny_pure h
theorem L7(xs:Array Value)(i k:Nat):((List.range k).filterMap λ(m:Nat)=>xs[((i:Int)+(m:Int)*1).toNat]?).toArray=((xs.toList.drop i).take k).toArray:=by
 have e:(λ(m:Nat)=>xs[((i:Int)+(m:Int)*1).toNat]?)=λm=>xs[i+m]?:=by
  funext m
  have:((i:Int)+(m:Int)*1).toNat=i+m:=by omega
  rw[this]
 rw[e]
 have:=pick_run xs i k
 rw[List.filterMap_map] at this
 have a:((λx=>xs[x]?) ∘ λx=>i+x)=λm=>xs[i+m]?:=rfl
 rw[a] at this
 rw[this]
theorem L8{t sl:Addr}{items:Array Value}{j i:Value}{lo hi:Option Int}{Q:Value->Shared->Prop}(b:IsTup s.heap t items)(n:s.heap.IsSliceOf sl j i .none)(pl:IsPart j lo)(p:IsPart i hi)
  (hw:¬ (sIx items.size 0 lo=0/\sIx items.size items.size hi=items.size))
  (h:Q (.ref s.heap.objs.size) { s with heap:=s.heap.push { cls:=.type "tuple",data:=.seq ((items.toList.drop (sIx items.size 0 lo)).take (sIx items.size items.size hi-sIx items.size 0 lo)).toArray } })
  (hsz:items.size<=sizeLine):wpAny (model prog w) A (getItem (.ref t) (.ref sl)) Q E s:=by
 have a:sizeOk (.seq ((items.toList.drop (sIx items.size 0 lo)).take (sIx items.size items.size hi-sIx items.size 0 lo)).toArray):=by
  show ((items.toList.drop (sIx items.size 0 lo)).take (sIx items.size items.size hi-sIx items.size 0 lo)).toArray.size<=sizeLine
  rw[size_toArray,length_take,List.length_drop,Array.length_toList]
  omega
 have y:sIx items.size items.size hi<=items.size:=LZ _ _ (Nat.le_refl _) hi
 obtain⟨r,c,f,u⟩:=id n
 have g:s.TypeIs (.ref sl) "slice" := ⟨r,c,f⟩
 unfold getItem
 try with_reducible refine wpAny_holding ?_
 first|refine wpAny_bind (wpAny_pure ?_)|skip
 refine wpAny_bind (wpAny_sequenceKey b.typeIs (by decide) ?_)
 refine wpAny_bind (wpAny_callSpecial?_slot (name:=Str.ofString "__getitem__") b.typeIs PyProof.Rows.slot_tuple_getitem
  (wpAny_call_entry PyProof.Rows.slot_tuple_getitem b.typeIs entry_tuple_getitem ?_ (args_tuple_getitem _ _)))
 show wpAny _ _ (Builtin.Tuple.tupleItemsOf (.ref t) >>= _) _ _ s
 refine wpAny_bind (tupleItemsOf_ b ?_)
 refine wpAny_bind (wpAny_typeOf g ?_)
 rw[if_pos (by decide)]
 refine wpAny_bind (L6 n pl p ?_)
 have e:¬ ((((sIx items.size 0 lo:Nat):Int) == 0 && (1:Int) == 1 && (sIx items.size items.size hi-sIx items.size 0 lo) == items.size)=true):=by
  intro q
  rw[Bool.and_eq_true,Bool.and_eq_true] at q
  have x:((sIx items.size 0 lo:Nat):Int)=0:=eq_of_beq q.1.1
  have v:sIx items.size items.size hi-sIx items.size 0 lo=items.size:=eq_of_beq q.2
  exact hw ⟨by omega,by omega⟩
 show wpAny _ _ (if (((sIx items.size 0 lo:Nat):Int) == 0 && (1:Int) == 1 && (sIx items.size items.size hi-sIx items.size 0 lo) == items.size)=true then _ else _) _ _ s
 rw[if_neg e,L7]
 first
  | exact wpAny_bind (m:=Builtin.Tuple.tupleExact _) (wpAny_newObj_type (wpAny_pure ⟨_,rfl,wpAny_pure h⟩) a)
  | exact wpAny_bind (m:=Builtin.Tuple.tupleExact _) (wpAny_newObj_type (wpAny_bind (wpAny_pure (wpAny_pure ⟨_,rfl,wpAny_pure h⟩))) a)
  | exact wpAny_bind (wpAny_bind (m:=Builtin.Tuple.tupleExact _) (wpAny_newObj_type (wpAny_pure (wpAny_pure ⟨_,rfl,wpAny_pure h⟩)) a))
  | exact wpAny_bind (wpAny_bind (m:=Builtin.Tuple.tupleExact _) (wpAny_newObj_type (wpAny_pure ⟨_,rfl,wpAny_pure h⟩) a))
end
end HT
namespace Att
open PySem PySem.W PySem.Calls PyProof.Rows
theorem KA{P:Params}{h:Heap}:∀ (ns:List Int) (vs:List Value),WellAll P h vs (ns.map WData.int)->IntsAre vs ns:=by
 intro ns
 induction ns with
 | nil =>
  intro vs w
  rw[map_nil] at w
  cases w
  exact .nil
 | cons n ns c =>
  intro vs w
  rw[map_cons] at w
  cases w with
  | cons a b =>
   cases a
   exact .cons _ _ (c _ b)
theorem KB{l:OpenLaw}{n:Nat}(hn:l.most=some n){P:Params}{h:Heap}{args:List WData}{b:List Value}
  (c:l.row.toRowW.claim.pre args=true) (j:WellAll P h b args) :
  ∃ a vs ns,b=[Value.ref a]/\args=[WData.list (ns.map WData.int)]/\h.get? a=some { cls:=.type "list",data:=.seq vs.toArray }/\IntsAre vs ns/\ns.length<=n:=by
 have m:WShape.hasAll [] args [.list .int]=true:=(pre_splitW c).1
 have p:l.pre.holds [] { args:=args }=true:=(pre_splitW c).2
 obtain⟨d,r,rfl,y,x⟩:=hasAllW_cons m
 obtain rfl:=hasAllW_nil x
 obtain⟨xs,rfl,w⟩:=hasW_list y
 obtain⟨ns,rfl⟩:=items_int w
 have e:ns.length<=n:=by
  unfold OpenLaw.pre at p
  have i:(WTm.not (.lt (.lit (.int (n:Int))) (.len (.arg 0)))).holds [] { args:=[.list (ns.map .int)] }=true:=by
   have i:=(holds_andW p).1
   rw[hn] at i
   exact i
  have g:=condW_of i (w_not (w_lt w_lit (w_len_list (w_arg rfl))))
  rw[length_map] at g
  refine Nat.le_of_not_lt λq=>?_
  have q':(n:Int)<((ns.length:Nat):Int):=by omega
  first
   | (rw[decide_eq_true q'] at g;exact absurd g (by decide))
   | (simp at g;omega)
 cases j with
 | cons u s =>
  cases s
  cases u with
  | list v f=>exact⟨_,_,ns,rfl,rfl,v,KA ns _ f,e⟩
theorem KC(l:OpenLaw)(args:List WData):l.row.toRowW.claim.post args (.bool true) args=true :=
 postW_of (r:=l.row.toRowW) (X:=(true == true))
  (show WShape.has [] (.bool true) .bool=true by first|rfl|decide|simp[WShape.has,WShape.arms,WShape.armsAll])
  (show (WTm.eq .res (.lit (.bool true))).value [] { args:=args,res:=some (.bool true),after:=args }=some (.bool (true == true)) from w_eq_bool (w_res rfl) w_lit) rfl
end Att
namespace L2
local macro_rules|`(tactic|omega)=>`(tactic|first|assumption|lia|omega (config:={}))
open PySem PySem.Spec PyProof.Rows
abbrev Key:=Sum Int Str
def Vl:Key->Value->Bool
 | .inl k,v=>Value.isInt k v
 | .inr x,v=>Value.isStrOf x v
def keyH(w:World):Key->Int
 | .inl k=>hashInt k
 | .inr x=>hashStr w x
theorem XJ:∀ {k:Key} {v:Value},Vl k v=true->(∃ i t,k=Sum.inl i/\v=Value.int i t)\/(∃ x t,k=Sum.inr x/\v=Value.str x t)
 | .inl i,v,h=>by
  obtain⟨t,e⟩:=Value.isInt_shape (k:=i) (v:=v) h
  exact .inl ⟨i,t,rfl,e⟩
 | .inr x,v,h=>by
  obtain⟨t,e⟩:=Value.isStrOf_shape (x:=x) (v:=v) h
  exact .inr ⟨x,t,rfl,e⟩
theorem Ln(i:Int)(t:Tok):Vl (.inl i) (.int i t)=true:=by simp[Vl,Value.isInt]
theorem Lo(x:Str)(t:Tok):Vl (.inr x) (.str x t)=true:=by simp[Vl,Value.isStrOf]
theorem Lp(a b:Int):decide ((Sum.inl a:Key)=Sum.inl b)=(a == b):=by
 by_cases e:a=b
 ·subst e;simp
 ·have h:¬ (Sum.inl a:Key)=Sum.inl b:=λq=>e (Sum.inl.inj q)
  rw[decide_eq_false h]
  exact (beq_eq_false_iff_ne.mpr e).symm
theorem Lq(a b:Str):decide ((Sum.inr a:Key)=Sum.inr b)=decide (a=b):=by
 by_cases e:a=b
 ·subst e;simp
 ·have h:¬ (Sum.inr a:Key)=Sum.inr b:=λq=>e (Sum.inr.inj q)
  rw[decide_eq_false h,decide_eq_false e]
theorem Lr(a:Int)(b:Str):decide ((Sum.inl a:Key)=Sum.inr b)=false:=decide_eq_false (λq=>nomatch q)
theorem Ls(a:Str)(b:Int):decide ((Sum.inr a:Key)=Sum.inl b)=false:=decide_eq_false (λq=>nomatch q)
def ZY(prog:Program)(w:World):PySem.KeyKind prog w Key where
 is:=Vl
 hash:=keyH w
 inj:=λv a b ha hb=>by
  rcases XJ ha with⟨i,t,rfl,rfl⟩|⟨x,t,rfl,rfl⟩
  ·rcases XJ hb with⟨j,u,rfl,e⟩|⟨y,u,rfl,e⟩
   ·injection e with e1 _;rw[e1]
   ·exact nomatch e
  ·rcases XJ hb with⟨j,u,rfl,e⟩|⟨y,u,rfl,e⟩
   ·exact nomatch e
   ·injection e with e1 _;rw[e1]
 byValue:=λk v h=>by
  rcases XJ h with⟨i,t,rfl,rfl⟩|⟨x,t,rfl,rfl⟩<;>rfl
 pyHash:=λhv h=>by
  rcases XJ hv with⟨i,t,rfl,rfl⟩|⟨x,t,rfl,rfl⟩
  ·exact wpAny_pyHash_int h
  ·exact wpAny_pyHash_str h
 eqBool:=λhu hv h=>by
  rcases XJ hu with⟨i,t,rfl,rfl⟩|⟨x,t,rfl,rfl⟩
  ·rcases XJ hv with⟨j,u,rfl,rfl⟩|⟨y,u,rfl,rfl⟩
   ·rw[Lp] at h;exact wpAny_eqBool_int h
   ·rw[Lr] at h;exact SeqAt.EqAt.int_str i t y u _ _ _ _ h
  ·rcases XJ hv with⟨j,u,rfl,rfl⟩|⟨y,u,rfl,rfl⟩
   ·rw[Ls] at h;exact SeqAt.EqAt.str_int x t j u _ _ _ _ h
   ·rw[Lq] at h;exact wpAny_eqBool_str h
 «strs»:=λk x t v h=>by
  rcases XJ h with⟨i,u,rfl,e⟩|⟨y,u,rfl,e⟩
  ·exact nomatch e
  ·injection e with e1 _
   subst e1
   cases v<;>rfl
theorem Lu(prog:Program)(w:World)(i:Int)(t:Tok):(ZY prog w).is (.inl i) (.int i t)=true:=Ln i t
theorem Lv(prog:Program)(w:World)(x:Str)(t:Tok):(ZY prog w).is (.inr x) (.str x t)=true:=Lo x t
inductive V where
 | non|bl (b:Bool)|int (i:Int)|str (x:Str)|byt (b:Array UInt8)|flt (b:UInt64)|ref (a:Addr)|ty (n:String)
 deriving DecidableEq
def Zo:V->Value->Prop
 | .non,u=>u=Value.none
 | .bl b,u=>u=Value.bool b
 | .int i,u=>∃ t,u=Value.int i t
 | .str x,u=>∃ t,u=Value.str x t
 | .byt b,u=>∃ t,u=Value.bytes b t
 | .flt b,u=>∃ t,u=Value.float b t
 | .ref a,u=>u=Value.ref a
 | .ty n,u=>u=Value.type n
abbrev Zm:List V->List Value->Prop:=Paired Zo
theorem Zm.length{xs:List V}{us:List Value}(r:Zm xs us):xs.length=us.length:=Paired.length r
theorem Zm.get:∀ {xs:List V} {us:List Value} {i:Nat} {x:V},Zm xs us->xs[i]?=some x->∃ u,us[i]?=some u/\Zo x u
 | _,_,_,_,.nil,e=>by simp at e
 | _,_,0,_,.cons r _,e=>by simp at e;subst e;exact⟨_,rfl,r⟩
 | _,_,i+1,x,.cons _ t,e=>by
  obtain⟨u,b,a⟩:=Zm.get (i:=i) (x:=x) t (by simpa using e)
  exact⟨u,by simpa using b,a⟩
theorem Zm.set{x:V}{u:Value}(r:Zo x u):∀ {xs:List V} {us:List Value} (i:Nat),Zm xs us->Zm (xs.set i x) (us.set i u)
 | _,_,_,.nil=>.nil
 | _,_,0,.cons _ t=>.cons r t
 | _,_,i+1,.cons q t=>.cons q (Zm.set r i t)
theorem Zm.append:∀ {xs ys:List V} {us a:List Value},Zm xs us->Zm ys a->Zm (xs++ys) (us++a)
 | _,_,_,_,.nil,s=>s
 | _,_,_,_,.cons r t,s=>.cons r (Zm.append t s)
theorem Zm.take:∀ {xs:List V} {us:List Value} (n:Nat),Zm xs us->Zm (xs.take n) (us.take n)
 | _,_,0,_=>.nil
 | _,_,_+1,.nil=>.nil
 | _,_,n+1,.cons r t=>.cons r (Zm.take n t)
theorem Zm.drop:∀ {xs:List V} {us:List Value} (n:Nat),Zm xs us->Zm (xs.drop n) (us.drop n)
 | _,_,0,r=>r
 | _,_,_+1,.nil=>.nil
 | _,_,n+1,.cons _ t=>Zm.drop n t
def YJ:Option V->Option Value->Prop
 | some v,some u=>Zo v u
 | none,none=>True
 | _,_=>False
variable{κ:Type}
def KV:List (κ×V)->List (κ×Value)->Prop:=Paired λ(p:κ×V) (q:κ×Value)=>p.1=q.1/\Zo p.2 q.2
def kV:Key->V
 | .inl i=>.int i
 | .inr x=>.str x
inductive HO where
 | lst (xs:List V)
 | tup (xs:List V)
 | dK (kvs:List (Key×V))|dT (kvs:List (List Key×V))
 | dN (kvs:List ((Key×List Key)×V))
 | set (S:Int->Bool) (n:Nat)
 | ins (C dx:Addr) (fs:List (Str×V))
 | own (x:Addr)
 | xd (fs:List (Str×V))
 | met (f x:Addr)
 | rng (lo hi:Int)
 | frz (o:Obj) (u:HO)
 | tbl (ps:Array Value)
 | tbq (q:Nat->Nat->Str)
 | ext (φ:Heap->Prop)
abbrev Hp:=Addr->Option HO
def Vm(o:Obj)(q:Str):Prop:=∃ vs t,o.data=.fields vs/\vs[1]?=some (.str q t)
def YX(h:Heap)(a:Addr)(items:Array Value):Prop:=∃ o,h.get? a=some o/\o.cls=.type "tuple" /\ (∃ n,o.data=.seq items n)/\o.dict=none
variable{h:Heap}{a:Addr}
theorem YX.is{items:Array Value}(x:YX h a items):IsTup h a items:=let ⟨o,e,c,d,_⟩:=x;⟨o,e,c,d⟩
instance {h:Heap} {a:Addr} {items:Array Value}:CoeOut (YX h a items) (IsTup h a items):=⟨YX.is⟩
theorem YX.new(h:Heap)(items:Array Value):YX (h.push { cls:=.type "tuple",data:=.seq items }) h.objs.size items:=⟨_,Heap.get?_push_size _ rfl,rfl,⟨_,rfl⟩,rfl⟩
def upd(H:Hp)(a:Addr)(o:HO):Hp:=λb=>if b=a then some o else H b
variable{H:Hp}
theorem ZF{o:HO}:upd H a o a=some o:=by unfold upd;rw[if_pos rfl]
variable{b:Addr}
theorem Zn{o:HO}(h:b≠a):upd H a o b=H b:=by unfold upd;rw[if_neg h]
theorem Vn{o u:HO}:upd (upd H a o) a u=upd H a u:=by
 funext b;unfold upd;split<;>rfl
theorem Wb{o u:HO}(h:H a=some o)(h':H b=some u)(d:o≠u):a≠b:=by
 intro e;subst e;rw[h] at h';exact d (Option.some.inj h')
theorem Z5{o:HO}(h:H a=some o)(h':H b=none):a≠b:=by
 intro e;subst e;rw[h] at h';cases h'
section
variable (P:Program)(w:World)
def ZB(H:Hp)(h:Heap)(a:Addr):HO->Prop
 | .lst xs=>xs.length<=sizeLine/\∃ (its:List Value) (n:Nat),Zm xs its/\h.get? a=some { cls:=.type "list",data:=.seq its.toArray n }
 | .tup xs=>xs.length<=sizeLine/\∃ its:List Value,Zm xs its/\YX h a its.toArray
 | .dK kvs=>kvs.length<=sizeLine/\(a == sysModules)=false/\∃ vs,KV kvs vs/\h.DictOf (ZY P w) a vs
 | .dT kvs=>kvs.length<=sizeLine/\(a == sysModules)=false/\∃ xs:List (List Key×Addr×Value),
   Paired (λ(p:List Key×V) (q:List Key×Addr×Value)=>p.1=q.1/\H q.2.1=some (.tup (p.1.map kV))/\Zo p.2 q.2.2) kvs xs /\
   ∃ o es ep,h.get? a=some o/\o.ExactDict/\o.data=.dict es ep/\es.toList=xs.map (entryOfKey (tupleKind (ZY P w)))/\(xs.map (·.1)).Nodup
 | .dN kvs=>kvs.length<=sizeLine/\(a == sysModules)=false/\∃ xs:List ((Key×List Key)×Addr×Value),
   Paired (λ(p:(Key×List Key)×V) (q:(Key×List Key)×Addr×Value)=>p.1=q.1/\(∃ b,H q.2.1=some (.tup [kV p.1.1,.ref b])/\H b=some (.tup (p.1.2.map kV)))/\Zo p.2 q.2.2) kvs xs /\
   ∃ o es ep,h.get? a=some o/\o.ExactDict/\o.data=.dict es ep/\es.toList=xs.map (entryOfKey (WP (ZY P w)))/\(xs.map (·.1)).Nodup
 | .set S n=>h.SetOf (intKind P w) a S n
 | .ins C dx fs=>H dx=some (.own a)/\fs.length<=1000/\dx≠a/\h.get? a=some (PySem.W.instObj C dx) /\
   ∃ mA,h.Ns1 dx mA/\(∀ f,YJ (fs.lookup f) (mA f))/\PySem.Within mA (fs.map (·.1))
 | .own _=>∃ o,h.get? a=some o
 | .xd fs=>∃ mA,h.Ns1 a mA/\∀ f,YJ (fs.lookup f) (mA f)
 | .rng lo hi=>∃ t u v,h.get? a=some { cls:=.type "range",data:=.fields #[.int lo t,.int hi u,.int 1 v] }
 | .frz o u=>h.get? a=some o/\ZB H h a u
 | .tbl ps=>h.get? a=some { cls:=.none,data:=.fields ps }
 | .tbq q=>∃ ps,h.get? a=some { cls:=.none,data:=.fields ps }/\TriplesOk ps.toList/\∀ pos cv,codeAmong pos ps.toList=some cv->∃ c o,cv=.ref c/\H c=some (.frz o (.own a))/\Vm o (q pos.line pos.col)
 | .met f x=>h.get? a=some (PySem.W.methodObj (.ref f) (.ref x))
 | .ext φ=>φ h/\(∃ o,h.get? a=some o)/\∀ h1 h2:Heap,φ h1->(∀ o,h1.get? a=some o->h2.get? a=some o)->φ h2
def HOk(H:Hp)(h:Heap):Prop:=∀ a o,H a=some o->ZB P w H h a o
end
variable{P:Program}{w:World}{H':Hp}{h':Heap}
section
variable{o:HO}
theorem ZB.lt(x:ZB P w H h a o):a<h.objs.size:=by
 cases o with
 | lst xs=>obtain⟨_,_,_,_,e⟩:=x;exact Heap.lt_size e
 | tup xs=>obtain⟨_,_,_,p⟩:=x;exact (YX.is p).lt
 | dK kvs=>obtain⟨_,_,_,_,o,_,_,e,_⟩:=x;exact Heap.lt_size e
 | dT kvs=>obtain⟨_,_,_,_,o,_,_,e,_⟩:=x;exact Heap.lt_size e
 | dN kvs=>obtain⟨_,_,_,_,o,_,_,e,_⟩:=x;exact Heap.lt_size e
 | set S n=>obtain⟨o,_,_,_,e,_⟩:=x;exact Heap.lt_size e
 | ins C m fs=>obtain⟨_,_,_,e,_⟩:=x;exact Heap.lt_size e
 | own y=>obtain⟨_,e⟩:=x;exact Heap.lt_size e
 | xd fs=>obtain⟨_,⟨_,_,_,e,_⟩,_⟩:=x;exact Heap.lt_size e
 | rng i j=>obtain⟨_,_,_,e⟩:=x;exact Heap.lt_size e
 | frz g u=>obtain⟨e,_⟩:=x;exact Heap.lt_size e
 | tbl c=>exact Heap.lt_size (show h.get? a=some _ from x)
 | tbq q=>obtain⟨_,e,_⟩:=x;exact Heap.lt_size e
 | met f y=>exact Heap.lt_size (show h.get? a=some _ from x)
 | ext b=>obtain⟨_,⟨_,e⟩,_⟩:=x;exact Heap.lt_size e
theorem Paired.mapP{α β:Type}{F G:α->β->Prop}:∀ {l₁:List α} {l₂:List β},Paired F l₁ l₂->(∀ a b,F a b->G a b)->Paired G l₁ l₂
 | _,_,.nil,_=>.nil
 | _,_,.cons r t,f=>.cons (f _ _ r) (Paired.mapP t f)
theorem ZB.stay(x:ZB P w H h a o)(k:∀ b u,(b=a\/H b=some (.own a))->h.get? b=some u->h'.get? b=some u)
  (K:∀ b,H b=some (.own a)->H' b=some (.own a)) (B:∀ b xs,H b=some (.tup xs)->H' b=some (.tup xs))
  (L:∀ b o,H b=some (.frz o (.own a))->H' b=some (.frz o (.own a)):=by first|exact λ_ _ q=>q|(intro b o q;rw[Zn (Z5 q (by assumption))];exact q)):ZB P w H' h' a o:=by
 induction o with
 | lst xs=>obtain⟨z,j,n,r,e⟩:=x;exact⟨z,j,n,r,k _ _ (.inl rfl) e⟩
 | tup xs=>obtain⟨z,j,r,g,e,c⟩:=x;exact⟨z,j,r,g,k _ _ (.inl rfl) e,c⟩
 | dK kvs=>obtain⟨z,y,vs,r,g,es,i,e,c⟩:=x;exact⟨z,y,vs,r,g,es,i,k _ _ (.inl rfl) e,c⟩
 | dT kvs =>
  obtain⟨z,y,xs,r,g,es,i,e,c⟩:=x
  exact⟨z,y,xs,Paired.mapP r λp q z=>⟨z.1,B _ _ z.2.1,z.2.2⟩,g,es,i,k _ _ (.inl rfl) e,c⟩
 | dN kvs =>
  obtain⟨z,y,xs,r,g,es,i,e,c⟩:=x
  exact⟨z,y,xs,Paired.mapP r λp q z=>⟨z.1,let ⟨b,I,G⟩:=z.2.1;⟨b,B _ _ I,B _ _ G⟩,z.2.2⟩,g,es,i,k _ _ (.inl rfl) e,c⟩
 | set S n=>obtain⟨g,es,i,t,e,c⟩:=x;exact⟨g,es,i,t,k _ _ (.inl rfl) e,c⟩
 | ins C U fs =>
  obtain⟨d,z,ne,e,A,⟨s,es,i,E,c⟩,r⟩:=x
  exact⟨K _ d,z,ne,k _ _ (.inl rfl) e,A,⟨s,es,i,k _ _ (.inr d) E,c⟩,r⟩
 | own y=>obtain⟨g,e⟩:=x;exact⟨g,k _ _ (.inl rfl) e⟩
 | xd fs=>obtain⟨A,⟨s,es,i,e,c⟩,r⟩:=x;exact⟨A,⟨s,es,i,k _ _ (.inl rfl) e,c⟩,r⟩
 | rng R T=>obtain⟨t,u,v,e⟩:=x;exact⟨t,u,v,k _ _ (.inl rfl) e⟩
 | frz g u J=>obtain⟨e,q⟩:=x;exact⟨k _ _ (.inl rfl) e,J q⟩
 | tbq q =>
  obtain⟨m,e,t,r⟩:=x
  exact⟨m,k _ _ (.inl rfl) e,t,λpos O z=>let ⟨c,o,N,E,M⟩:=r pos O z;⟨c,o,N,L _ _ E,M⟩⟩
 | tbl m =>
  have e:h.get? a=some { cls:=.none,data:=.fields m }:=x
  show h'.get? a=some { cls:=.none,data:=.fields m }
  exact k a _ (.inl rfl) e
 | met f y =>
  have e:h.get? a=some (PySem.W.methodObj (.ref f) (.ref y)):=x
  show h'.get? a=some (PySem.W.methodObj (.ref f) (.ref y))
  exact k a _ (.inl rfl) e
 | ext Q=>obtain⟨p,⟨o,e⟩,F⟩:=x;exact⟨F _ _ p λo q=>k _ _ (.inl rfl) q,⟨o,k _ _ (.inl rfl) e⟩,F⟩
theorem HOk.lt(x:HOk P w H h)(e:H a=some o):a<h.objs.size:=(x a o e).lt
theorem HOk.fresh(x:HOk P w H h)(e:h.objs.size<=a):H a=none:=by
 cases q:H a with
 | none=>rfl
 | some u=>exact absurd (Nat.lt_of_lt_of_le (x.lt q) e) (Nat.lt_irrefl _)
theorem HOk.kept(x:HOk P w H h)(k:∀ b u,h.get? b=some u->h'.get? b=some u):HOk P w H h':=λa o e =>
 (x a o e).stay (λb u _ q=>k b u q) (λ_ q=>q) λ_ _ q=>q
theorem HOk.laid(x:HOk P w H h)(k:∀ b u,h.get? b=some u->h'.get? b=some u)(i:h.objs.size<=a)(new:ZB P w (upd H a o) h' a o):HOk P w (upd H a o) h':=λb u e=>by
 have f:=x.fresh i
 by_cases g:b=a
 ·subst g;rw[ZF] at e;cases e;exact new
 ·rw[Zn g] at e
  exact (x b u e).stay (λc v _ q=>k c v q) (λc q=>by rw[Zn (Z5 q f)];exact q) λc xs q=>by rw[Zn (Z5 q f)];exact q
end
def Rd(H:Hp)(a:Addr)(u:HO):Prop:=H a=some u\/∃ o,H a=some (.frz o u)
theorem Rd.ok{u:HO}(r:Rd H a u)(x:HOk P w H h):ZB P w H h a u:=by
 rcases r with r|⟨o,r⟩
 ·exact x a u r
 ·obtain⟨_,q⟩:=x a _ r
  exact q
def Mut:Option HO->Prop
 | some (.lst _)=>True
 | some (.dK _)=>True
 | some (.dT _)=>True
 | some (.dN _)=>True
 | some (.set _ _)=>True
 | some (.ins _ _ _)=>True
 | some (.ext _)=>True
 | _=>False
section
variable{x e:Addr}{o':HO}
theorem HOk.write(ok:HOk P w H h)(mu:Mut (H x))(n:e=x\/H e=some (.own x))(k:∀ b u,b≠e->h.get? b=some u->h'.get? b=some u)(m:∃ u,h'.get? e=some u)
  (new:ZB P w (upd H x o') h' x o'):HOk P w (upd H x o') h':=λb u q=>by
 have f:∀ c y,H c=some (.own y)->c≠x:=λc y r z=>by subst z;rw[r] at mu;exact mu
 have g:∀ c xs,H c=some (.tup xs)->c≠x:=λc xs r z=>by subst z;rw[r] at mu;exact mu
 by_cases j:b=x
 ·subst j;rw[ZF] at q;cases q;exact new
 ·rw[Zn j] at q
  by_cases a:b=e
  ·have q':H b=some (.own x):=by
    rcases n with z|z
    ·exact absurd (a.trans z) j
    ·rw[a];exact z
   rw[q] at q';cases q'
   obtain⟨v,p⟩:=m
   exact⟨v,by rw[a];exact p⟩
  ·refine (ok b u q).stay (λc v i r=>k c v ?_ r) (λc r=>by rw[Zn (f c b r)];exact r) (λc xs r=>by rw[Zn (g c xs r)];exact r) (λc o r=>by rw[Zn (λz=>by subst z;rw[r] at mu;exact mu)];exact r)
   rcases i with rfl|i
   ·exact a
   ·rintro rfl
    rcases n with z|z
    ·exact f c b i z
    ·rw[i] at z;cases z;exact j rfl
end
structure Un(fs ex:List Addr)(H H':Hp)(h h':Heap):Prop where
 keep:∀ b o,h.get? b=some o->H b=none->b∉fs->b∉ex->h'.get? b=some o
 slot:∀ b o,h.get? b=some o->H b=none->b∈fs->b∉ex->∃ sl,h'.get? b=some { o with slots:=sl }
 free:∀ b o,h.get? b=some o->H b=none->b∉ex->H' b=none
 there:∀ b o,h.get? b=some o->b∉ex->∃ o',h'.get? b=some o'
 tups:∀ b xs,H b=some (.tup xs)->H' b=some (.tup xs)
 frzs:∀ b o u,H b=some (.frz o u)->H' b=some (.frz o u)
 tbls:∀ b ps,H b=some (.tbl ps)->∃ more,H' b=some (.tbl (ps++more))
variable{H1:Hp}
section
variable{fs ex:List Addr}{h1:Heap}{x e:Addr}{o:HO}
theorem Un.any(u:Un fs ex H H1 h h1){a:Obj}(q:h.get? b=some a)(n:H b=none)(c:b∉ex):∃ sl,h1.get? b=some { a with slots:=sl }:=by
 by_cases e:b∈fs
 ·exact u.slot b a q n e c
 ·exact⟨a.slots,u.keep b a q n e c⟩
theorem Un.kept(k:∀ b u,h.get? b=some u->h'.get? b=some u):Un fs ex H H h h' :=
 ⟨λb a q _ _ _=>k b a q,λb a q _ _ _=>⟨a.slots,k b a q⟩,λ_ _ _ n _=>n,λb a q _=>⟨a,k b a q⟩,λ_ _ q=>q,λ_ _ _ q=>q,λ_ c q=>⟨#[],by rw[q];simp⟩⟩
theorem Un.refl:Un fs ex H H h h:=Un.kept λ_ _ q=>q
theorem Un.laid(k:∀ b u,h.get? b=some u->h'.get? b=some u)(c:h.objs.size<=a)(hn:H a=none):Un fs ex H (upd H a o) h h' where
 keep:=λb u q _ _ _=>k b u q
 slot:=λb u q _ _ _=>⟨u.slots,k b u q⟩
 free:=λb u q n _=>by rw[Zn (Nat.ne_of_lt (Nat.lt_of_lt_of_le (Heap.lt_size q) c))];exact n
 there:=λb u q _=>⟨u,k b u q⟩
 tups:=λb xs q=>by rw[Zn (Z5 q hn)];exact q
 frzs:=λb u xs q=>by rw[Zn (Z5 q hn)];exact q
 tbls:=λb e q=>⟨#[],by rw[Zn (Z5 q hn),q];simp⟩
theorem Un.write(mu:Mut (H x))(j:e=x\/H e=some (.own x))(k:∀ b u,b≠e->h.get? b=some u->h'.get? b=some u)(f:∃ u,h'.get? e=some u):Un fs ex H (upd H x o) h h':=by
 have g:∀ b,H b=none->b≠x:=λb n z=>by subst z;rw[n] at mu;exact mu
 have i:∀ b,H b=none->b≠e:=λb n z=>by
  subst z
  rcases j with r|r
  ·exact g b n r
  ·rw[n] at r;cases r
 have c:∀ b u,H b=some u->¬ Mut (some u)->b≠x:=λb u q nm z=>by subst z;rw[q] at mu;exact nm mu
 refine⟨λb u q n _ _=>k b u (i b n) q,λb u q n _ _=>⟨u.slots,k b u (i b n) q⟩,λb u q n _=>by rw[Zn (g b n)];exact n,λb u q _=>?_,
  λb xs q=>by rw[Zn (c b _ q λz=>z)];exact q,λb u xs q=>by rw[Zn (c b _ q λz=>z)];exact q,λb m q=>⟨#[],by rw[Zn (c b _ q λz=>z),q];simp⟩⟩
 by_cases a:b=e
 ·subst a;exact f
 ·exact⟨u,k b u a q⟩
end
def trk(h:Heap)(H:Hp):List Addr:=(List.range h.objs.size).filter λa=>(H a).isSome
def XL(h:Heap)(H:Hp):Heap:=PySem.W.hideAll h (trk h H)
theorem LB(h:Heap)(H:Hp):(XL h H).objs.size=h.objs.size:=PySem.W.hideAll_size _ _
theorem Ss{o:Obj}(e:h.get? b=some o)(n:H b=none):(XL h H).get? b=some o :=
 PySem.W.hideAll_get _ e λa=>by
  have q:(H b).isSome=true:=(mem_filter.mp a).2
  rw[n] at q;simp at q
theorem LC{o:Obj}(e:(XL h H).get? b=some o):h.get? b=some o/\H b=none:=by
 have a:h.get? b=some o:=PySem.W.of_hideAll (trk h H) e
 refine⟨a,?_⟩
 cases q:H b with
 | none=>rfl
 | some x =>
  have c:b∈trk h H:=mem_filter.mpr ⟨mem_range.mpr (Heap.lt_size a),by simp[q]⟩
  have z:(XL h H).get? b=none:=PySem.W.hideAll_none (trk h H) c
  rw[z] at e;cases e
structure Mod(K:W.Frag)(mg:Str->Option Value)(base:Heap):Prop where
 kin:K.In base
 glob:base.Ns mainGlobals mg
 blt:∃ mb,base.Ns builtinsNs mb/\∀ x:Str,x ≠ "__name__" -> mb x=bootBuiltins x
 nolimit:base.NoLimit
structure Cx where
 prog:Program
 w:World
 K:W.Frag
 mg:Str->Option Value
 base:Heap
 A:Around
 N:List Str
 s₀:Shared
 H₀:Hp
 env:Env
 outer:List Env
 stack:List Env
 ex:List Addr
 fn:Str->Bool
 calm:Bool
 pn:List (Addr×Obj)
 xe:Value->Shared->Prop
def frs(l:List Env):List Addr:=l.filterMap (·.frame)
abbrev Cx.fs(X:Cx):List Addr:=frs X.outer
def Vis(sc:Scope)(x:Str):Prop:=sc.names.lookup x=some .local\/sc.names.lookup x=some .cell\/sc.names.lookup x=some .free
def Loc(sc:Scope)(x:Str):Prop:=sc.names.lookup x=some .local\/sc.names.lookup x=some .cell
def Look(env:Env)(h:Heap)(m:Str->Option Value)(x:Str)(u:Value):Prop :=
 (env.kindOf x=some .local/\m x=some u)\/((env.kindOf x=some .cell\/env.kindOf x=some .free)/\∃ c,env.cells.lookup x=some c/\h.IsCell c (some u))
structure Cx.Ok(X:Cx):Prop where
 mod:Mod X.K X.mg X.base
 kind:X.env.scope.kind=.function
 glob:X.env.globals=mainGlobals
 blt:X.env.builtins=builtinsNs
 above:X.s₀.heap.objs.size<=X.env.locals
 inj:∀ x y c,X.env.cells.lookup x=some c->X.env.cells.lookup y=some c->x=y
 has:∀ x,(X.env.kindOf x=some .cell\/X.env.kindOf x=some .free)->∃ c,X.env.cells.lookup x=some c
 cab:∀ x c,X.fn x=true->X.env.cells.lookup x=some c->X.s₀.heap.objs.size<=c
 hd:X.calm=true->X.A.handled=none
 frames:X.A.frames=some X.stack
 stk:X.stack=X.outer\/(X.stack=X.env::X.outer/\X.env.frame=some X.env.locals)
 exf:∀ b∈X.ex,b≠X.env.locals/\∀ x c,X.env.cells.lookup x=some c->c≠b
 bs:∀ b o,X.base.get? b=some o->X.s₀.heap.get? b=some o/\X.H₀ b=none
 bsz:X.base.objs.size<=X.s₀.heap.objs.size
 noex:∀ b o,X.base.get? b=some o->b∉X.ex
 exfs:∀ b∈X.ex,b∉X.fs
 funs:X.s₀.heap.FunFrames X.base X.outer
 frf:∀ b∈X.fs,X.H₀ b=none
structure Inv(X:Cx)(pins:List (Addr×Obj))(σ:List (Option V))(H:Hp)(s:Shared):Prop where
 ok:X.Ok
 os:s.os=X.s₀.os
 bare:AllBare s.gens
 base:Un X.fs X.ex X.H₀ H X.s₀.heap s.heap
 loc:∃ m,s.heap.Ns X.env.locals m/\∀ (i:Nat) (x:Str) (v:V),X.N[i]?=some x->σ[i]?=some (some v)->Vis X.env.scope x->∃ u,Zo v u/\Look X.env s.heap m x u
 cell:∀ x c,X.env.cells.lookup x=some c->∃ v,s.heap.IsCell c v
 free:H X.env.locals=none
 freeC:∀ x c,X.env.cells.lookup x=some c->H c=none
 pin:∀ p∈X.pn++pins,s.heap.get? p.1=some p.2/\H p.1=none/\p.1≠X.env.locals/\p.1∉X.fs/\∀ v,p.2.data≠.cell v
 hok:HOk X.prog X.w H s.heap
 len:σ.length=X.N.length
variable{X:Cx}{s s':Shared}{t' i j:Nat}{d':Drawn}{it:Addr}{x:Str}{M:Model}{A:Around}{v:V}{u:Value}{g':Array GenState}{ch:List Addr}{N:List Str}{pins pins':List (Addr×Obj)}{E:Value->Shared->Prop}
section
variable{σ:List (Option V)}
theorem Cx.Ok.nofr(ok:X.Ok){o:Obj}(e:X.base.get? b=some o):b∉X.fs:=λa=>by
 have:=(ok.funs.mem a).1
 rw[e] at this;cases this
theorem Inv.bs(I:Inv X pins σ H s):∀ b o,X.base.get? b=some o->s.heap.get? b=some o/\H b=none:=λb o e =>
 ⟨I.base.keep b o (I.ok.bs b o e).1 (I.ok.bs b o e).2 (I.ok.nofr e) (I.ok.noex b o e),I.base.free b o (I.ok.bs b o e).1 (I.ok.bs b o e).2 (I.ok.noex b o e)⟩
theorem Inv.bk(I:Inv X pins σ H s):∀ b o,X.base.get? b=some o->s.heap.get? b=some o:=λb o e=>(I.bs b o e).1
theorem Inv.mod(I:Inv X pins σ H s):Mod X.K X.mg X.base:=I.ok.mod
theorem Inv.kIn(I:Inv X pins σ H s):X.K.In s.heap:=I.ok.mod.kin.keeps I.bk
theorem Inv.nolimit(I:Inv X pins σ H s):s.heap.NoLimit:=I.ok.mod.nolimit.keeps I.bk
theorem Inv.lt(I:Inv X pins σ H s):X.env.locals<s.heap.objs.size:=let ⟨_,a,_⟩:=I.loc;a.lt
theorem Inv.sz(I:Inv X pins σ H s):X.s₀.heap.objs.size<=s.heap.objs.size:=Nat.le_trans I.ok.above (Nat.le_of_lt I.lt)
theorem Inv.nofs(I:Inv X pins σ H s)(h:s.heap.objs.size<=a):a∉X.fs:=λc=>by
 obtain⟨_,o,b,_⟩:=I.ok.funs.mem c
 exact absurd (Nat.lt_of_lt_of_le (Heap.lt_size b) (Nat.le_trans I.sz h)) (Nat.lt_irrefl _)
theorem Inv.cne(I:Inv X pins σ H s):∀ x c,X.env.cells.lookup x=some c->c≠X.env.locals:=λx c e z=>by
 obtain⟨v,o,f,g⟩:=I.cell x c e
 obtain⟨m,⟨h,es,i,a,b,_⟩,_⟩:=I.loc
 rw[z,a] at f;cases f;rw[b] at g;cases g
theorem Inv.funs(I:Inv X pins σ H s):s.heap.FunFrames X.base X.outer:=by
 have all:∀ (l:List Env),(∀ b∈frs l,b∈X.fs)->X.s₀.heap.FunFrames X.base l->s.heap.FunFrames X.base l:=by
  intro l
  induction l with
  | nil=>intro _ _;trivial
  | cons env r h =>
   intro g n
   obtain⟨p,⟨L,o,a,m,j,q⟩,i⟩:=n
   have f:L∈X.fs:=g L (by unfold frs;rw[filterMap_cons,a];exact mem_cons_self)
   obtain⟨sl,e⟩:=I.base.slot L o j (I.ok.frf L f) f λz=>I.ok.exfs L z f
   exact⟨p,⟨L,_,a,m,e,q⟩,h (λb c=>g b (by unfold frs;rw[filterMap_cons,a];exact mem_cons_of_mem _ c)) i⟩
 exact all X.outer (λ_ c=>c) I.ok.funs
theorem Inv.stack(I:Inv X pins σ H s):s.heap.FunFrames X.base X.stack:=by
 rcases I.ok.stk with e|⟨e,hf⟩
 ·rw[e];exact I.funs
 ·rw[e]
  obtain⟨m,a,_⟩:=I.loc
  refine .cons (by rw[I.ok.kind];decide) hf a ?_ I.funs
  exact Heap.get?_none_of_le (Nat.le_trans I.ok.bsz I.ok.above)
theorem Inv.stkSub(I:Inv X pins σ H s):∀ b∈frs X.stack,b∈X.env.locals::X.fs:=λb a=>by
 rcases I.ok.stk with e|⟨e,hf⟩
 ·rw[e] at a;exact mem_cons_of_mem _ a
 ·rw[e] at a
  unfold frs at a
  rw[filterMap_cons,hf] at a
  exact a
theorem Inv.stkFree(I:Inv X pins σ H s):∀ b∈frs X.stack,H b=none:=λb a=>by
 rcases mem_cons.mp (I.stkSub b a) with e|a
 ·rw[e];exact I.free
 ·obtain⟨_,o,c,_⟩:=I.ok.funs.mem a
  exact I.base.free b o c (I.ok.frf b a) λz=>I.ok.exfs b z a
theorem Inv.step{g':Array GenState}{t':Nat}{d':Drawn}{ch:List Addr}(I:Inv X pins σ H s)
  (g:∀ b∈ch,(b∈X.ex\/X.s₀.heap.objs.size<=b)/\b≠X.env.locals/\(∀ x c,X.env.cells.lookup x=some c->c≠b)/\∀ p∈X.pn++pins,p.1≠b)
  (keep:∀ b o,b≠X.env.locals->b∉X.fs->b∉ch->s.heap.get? b=some o->H b=none->h'.get? b=some o)
  (slot:∀ b o,b≠X.env.locals->b∈X.fs->b∉ch->s.heap.get? b=some o->H b=none->∃ sl,h'.get? b=some { o with slots:=sl }) (free:∀ b o,b∉ch->s.heap.get? b=some o->H b=none->H' b=none)
  (there:∀ b o,b∉ch->s.heap.get? b=some o->∃ o',h'.get? b=some o')
  (tups:∀ b xs,H b=some (.tup xs)->H' b=some (.tup xs)) (frzs:∀ b o u,H b=some (.frz o u)->H' b=some (.frz o u)) (tbls:∀ b ps,H b=some (.tbl ps)->∃ more,H' b=some (.tbl (ps++more)))
  (ns:∀ m,s.heap.Ns X.env.locals m->h'.Ns X.env.locals m) (hok:HOk X.prog X.w H' h') (P:AllBare g') :
  Inv X pins σ H' { s with heap:=h',gens:=g',drawn:=d',toks:=t' }:=by
 have B:∀ b o,X.s₀.heap.get? b=some o->b≠X.env.locals:=λb o e=>Nat.ne_of_lt (Nat.lt_of_lt_of_le (Heap.lt_size e) I.ok.above)
 have j:∀ b o,X.s₀.heap.get? b=some o->b∉X.ex->b∉ch:=λb o e a y=>by
  rcases (g b y).1 with z|z
  ·exact a z
  ·exact absurd (Nat.lt_of_lt_of_le (Heap.lt_size e) z) (Nat.lt_irrefl _)
 have h:∀ x c,X.env.cells.lookup x=some c->∀ v,s.heap.IsCell c v->h'.IsCell c v:=λx c e v ⟨o,A,F⟩=>by
  have f:c∉ch:=λz=>(g c z).2.2.1 x c e rfl
  by_cases K:c∈X.fs
  ·obtain⟨sl,q⟩:=slot c o (I.cne x c e) K f A (I.freeC x c e)
   exact⟨_,q,F⟩
  ·exact⟨o,keep c o (I.cne x c e) K f A (I.freeC x c e),F⟩
 refine⟨I.ok,I.os,P,⟨λb o e n y a=>?_,λb o e n y a=>?_,λb o e n a=>?_,λb o e a=>?_,λb xs e=>tups b xs (I.base.tups b xs e),λb o xs e=>frzs b o xs (I.base.frzs b o xs e),λb ps e=>?_⟩,?_,λx c e=>?_,?_,λx c e=>?_,λp J=>?_,hok,I.len⟩
 ·exact keep b o (B b o e) y (j b o e a) (I.base.keep b o e n y a) (I.base.free b o e n a)
 ·obtain⟨sl,w⟩:=I.base.slot b o e n y a
  obtain⟨E,C⟩:=slot b _ (B b o e) y (j b o e a) w (I.base.free b o e n a)
  exact⟨E,C⟩
 ·obtain⟨o',w⟩:=I.base.there b o e a
  exact free b o' (j b o e a) w (I.base.free b o e n a)
 ·obtain⟨o',w⟩:=I.base.there b o e a
  exact there b o' (j b o e a) w
 ·obtain⟨M,w⟩:=I.base.tbls b ps e
  obtain⟨L,C⟩:=tbls b _ w
  exact⟨M++L,by rw[C,Array.append_assoc]⟩
 ·obtain⟨m,N,O⟩:=I.loc
  refine⟨m,ns m N,λi x v w C Q=>?_⟩
  obtain⟨u,r,l⟩:=O i x v w C Q
  refine⟨u,r,?_⟩
  rcases l with l|⟨k,c,e,z⟩
  ·exact .inl l
  ·exact .inr ⟨k,c,e,h x c e _ z⟩
 ·obtain⟨v,z⟩:=I.cell x c e
  exact⟨v,h x c e v z⟩
 ·obtain⟨m,⟨o,_,_,A,_⟩,_⟩:=I.loc
  exact free _ o (λz=>(g _ z).2.1 rfl) A I.free
 ·obtain⟨v,o,A,F⟩:=I.cell x c e
  exact free c o (λz=>(g c z).2.2.1 x c e rfl) A (I.freeC x c e)
 ·obtain⟨e,n,ne,G,d⟩:=I.pin p J
  have f:p.1∉ch:=λz=>(g p.1 z).2.2.2 p J rfl
  exact⟨keep p.1 p.2 ne G f e n,free p.1 p.2 f e n,ne,G,d⟩
theorem Inv.un(I:Inv X pins σ H s)(u:Un X.fs [] H H' s.heap h')(hok:HOk X.prog X.w H' h'):Inv X pins σ H' { s with heap:=h',toks:=t' }:=by
 obtain⟨m,⟨o,es,w,h,r⟩,_⟩:=id I.loc
 obtain⟨sl,p⟩:=u.any h I.free (by simp)
 exact I.step (g':=s.gens) (d':=s.drawn) (ch:=[]) (λ_ z=>nomatch z) (λb o _ c _ e n=>u.keep b o e n c (by simp)) (λb o _ c _ e n=>u.slot b o e n c (by simp)) (λb o _ e n=>u.free b o e n (by simp)) (λb o _ e=>u.there b o e (by simp)) u.tups u.frzs u.tbls (λv j=>by
  obtain⟨q,f,g,a,i⟩:=j
  rw[h] at a;cases a
  exact⟨_,f,g,p,i⟩) hok I.bare
theorem Inv.call(I:Inv X pins σ H s)(u:Un (frs X.stack) ch H H' s.heap h')(hok:HOk X.prog X.w H' h')(y:AllBare g')
  (g:∀ b∈ch,(b∈X.ex\/X.s₀.heap.objs.size<=b)/\b≠X.env.locals/\(∀ x c,X.env.cells.lookup x=some c->c≠b)/\∀ p∈X.pn++pins,p.1≠b) :
  Inv X pins σ H' { s with heap:=h',gens:=g',drawn:=d',toks:=t' }:=by
 obtain⟨m,⟨o,es,E,q,r⟩,_⟩:=id I.loc
 obtain⟨sl,h⟩:=u.any q I.free λz=>(g _ z).2.1 rfl
 exact I.step (ch:=ch) g (λb o h A a e n=>u.keep b o e n (λz=>(mem_cons.mp (I.stkSub b z)).elim h A) a) (λb o _ _ a e n=>u.any e n a) (λb o a e n=>u.free b o e n a) (λb o a e=>u.there b o e a) u.tups u.frzs u.tbls (λC w=>by
  obtain⟨B,i,j,f,v⟩:=w
  rw[q] at f;cases f
  exact⟨_,i,j,h,v⟩) hok y
theorem Inv.turned(I:Inv X pins σ H s)(k:∀ b o,b≠it->s.heap.get? b=some o->h'.get? b=some o)(hn:H it=none)(g:it≠X.env.locals)
  (h1:it∈X.ex\/X.s₀.heap.objs.size<=it) (h2:∀ x c,X.env.cells.lookup x=some c->c≠it) (w:∀ p∈X.pn++pins,p.1≠it):Inv X pins σ H { s with heap:=h',toks:=t' }:=by
 have f:∀ b u,H b=some u->b≠it:=λb u e z=>by rw[z,hn] at e;cases e
 refine I.step (g':=s.gens) (d':=s.drawn) (ch:=[it]) (λb j=>?_) (λb o _ _ a e _=>k b o (λz=>a (by simp[z])) e) (λb o _ _ a e _=>⟨o.slots,k b o (λz=>a (by simp[z])) e⟩) (λ_ _ _ _ n=>n)
  (λb o a e=>⟨o,k b o (λz=>a (by simp[z])) e⟩) (λ_ _ e=>e) (λ_ _ _ e=>e) (λb A e=>⟨#[],by rw[e];simp⟩) (λm i=>?_) (λb u e=>?_) I.bare
 ·have e:b=it:=by simpa using j
  subst e
  exact⟨h1,g,h2,w⟩
 ·obtain⟨o,es,y,h,r⟩:=i
  exact⟨o,es,y,k _ o (Ne.symm g) h,r⟩
 ·refine (I.hok b u e).stay (λc v a q=>k c v ?_ q) (λ_ q=>q) λ_ _ q=>q
  rcases a with z|z
  ·rw[z];exact f b u e
  ·exact f c _ z
theorem Inv.tok(I:Inv X pins σ H s)(t:Nat):Inv X pins σ H { s with toks:=t }:=I.un (h':=s.heap) (t':=t) Un.refl I.hok
theorem Inv.kept{t':Nat}(I:Inv X pins σ H s)(k:∀ b u,s.heap.get? b=some u->h'.get? b=some u):Inv X pins σ H { s with heap:=h',toks:=t' }:=I.un (Un.kept k) (I.hok.kept k)
theorem Inv.laid{a:Addr}{o:HO}{t':Nat}(I:Inv X pins σ H s)(k:∀ b u,s.heap.get? b=some u->h'.get? b=some u)(c:s.heap.objs.size<=a)(new:ZB X.prog X.w (upd H a o) h' a o) :
  Inv X pins σ (upd H a o) { s with heap:=h',toks:=t' }:=I.un (Un.laid k c (I.hok.fresh c)) (I.hok.laid k c new)
theorem Inv.write{x e:Addr}{o:HO}{t':Nat}(I:Inv X pins σ H s)(mu:Mut (H x))(c:e=x\/H e=some (.own x))(k:∀ b u,b≠e->s.heap.get? b=some u->h'.get? b=some u)(a:∃ u,h'.get? e=some u)
  (new:ZB X.prog X.w (upd H x o) h' x o):Inv X pins σ (upd H x o) { s with heap:=h',toks:=t' }:=I.un (Un.write mu c k a) (I.hok.write mu c k a new)
theorem Inv.pins_of(I:Inv X pins σ H s)(h:∀ p∈pins',s.heap.get? p.1=some p.2/\H p.1=none/\p.1≠X.env.locals/\p.1∉X.fs/\∀ v,p.2.data≠.cell v):Inv X pins' σ H s :=
 ⟨I.ok,I.os,I.bare,I.base,I.loc,I.cell,I.free,I.freeC,λp a=>(mem_append.mp a).elim (λz=>I.pin p (mem_append_left _ z)) (h p),I.hok,I.len⟩
theorem Q5(c:N.Nodup)(a:N[i]?=some x)(b:N[j]?=some x):i=j:=by
 obtain⟨h,f⟩:=List.getElem?_eq_some_iff.mp a
 obtain⟨g,e⟩:=List.getElem?_eq_some_iff.mp b
 exact (List.getElem_inj c).mp (f.trans e.symm)
theorem V7{Q:Unit->Shared->Prop}(I:Inv X pins σ H s)(hN:X.N.Nodup)(hi:X.N[i]?=some x)(C:Loc X.env.scope x)(r:Zo v u)
  (h:∀ s',Inv X pins (σ.set i (some v)) H s'->(∃ a,Heap.SameBut a s.heap s'.heap/\(a=X.env.locals\/X.env.cells.lookup x=some a))->Q () s') (hf:X.fn x=true\/X.env.scope.names.lookup x=some .local:=by first|exact .inl rfl|exact .inr rfl|assumption):wpAny M A (storeName X.env x u) Q E s:=by
 obtain⟨m,hn,hl⟩:=id I.loc
 have S:(X.env.scope.kind == .class || (X.env.scope.kind == .module && X.env.locals != X.env.globals))=false:=by rw[I.ok.kind];rfl
 have K:i<σ.length:=by rw[I.len];exact (List.getElem?_eq_some_iff.mp hi).1
 have cne:=I.cne
 have g:∀ {a:Addr} {h':Heap},(∃ o,s.heap.get? a=some o/\H a=none)->Heap.SameBut a s.heap h'->HOk X.prog X.w H h':=λ{a h'} ha f b ob e=>by
  obtain⟨_,_,F⟩:=ha
  refine (I.hok b ob e).stay (λc W B q=>(f.2 c ?_).trans q) (λ_ q=>q) λ_ _ q=>q
  rintro rfl
  rcases B with rfl|B
  ·rw[F] at e;cases e
  ·rw[F] at B;cases B
 rcases C with J|J
 ·refine wpAny_storeName_local J hn (λh' hn' f=>?_) S
  obtain⟨oL,_,_,hoL,_⟩:=id hn
  refine h _ ⟨I.ok,I.os,I.bare,⟨λb o e n O C=>?_,λb o e n O C=>?_,I.base.free,λb o e C=>?_,I.base.tups,I.base.frzs,I.base.tbls⟩,⟨_,hn',λj y Z w G e3=>?_⟩,λy c e=>?_,I.free,I.freeC,λp hp=>?_,g ⟨oL,hoL,I.free⟩ f,by simpa using I.len⟩ ⟨_,f,.inl rfl⟩
  ·exact (f.2 b (Nat.ne_of_lt (Nat.lt_of_lt_of_le (Heap.lt_size e) I.ok.above))).trans (I.base.keep b o e n O C)
  ·obtain⟨sl,w⟩:=I.base.slot b o e n O C
   exact⟨sl,(f.2 b (Nat.ne_of_lt (Nat.lt_of_lt_of_le (Heap.lt_size e) I.ok.above))).trans w⟩
  ·obtain⟨o',w⟩:=I.base.there b o e C
   exact⟨o',(f.2 b (Nat.ne_of_lt (Nat.lt_of_lt_of_le (Heap.lt_size e) I.ok.above))).trans w⟩
  ·by_cases L:j=i
   ·subst L
    rw[hi] at w;cases w
    rw[List.getElem?_set_self K] at G
    cases G
    exact⟨u,r,.inl ⟨J,by simp⟩⟩
   ·rw[List.getElem?_set_ne (Ne.symm L)] at G
    obtain⟨u',r',q⟩:=hl j y Z w G e3
    refine⟨u',r',?_⟩
    rcases q with⟨k,e⟩|⟨k,c,e,z⟩
    ·refine .inl ⟨k,?_⟩
     have:y≠x:=λe=>L (Q5 hN w (e▸hi))
     simp[this,e]
    ·exact .inr ⟨k,c,e,z.sameBut f (cne y c e)⟩
  ·obtain⟨W,z⟩:=I.cell y c e
   exact⟨W,z.sameBut f (cne y c e)⟩
  ·obtain⟨e,n,ne,nf,d⟩:=I.pin p hp
   exact⟨(f.2 p.1 ne).trans e,n,ne,nf,d⟩
 ·have N:X.fn x=true:=by
   rcases hf with z|z
   ·exact z
   ·rw[z] at J;cases J
  obtain⟨c,B⟩:=I.ok.has x (.inl J)
  obtain⟨W,z⟩:=I.cell x c B
  refine wpAny_storeName_cell I.ok.kind J B z (λh' U f=>?_)
  obtain⟨oc,R,P⟩:=id z
  refine h { s with heap:=h' } ⟨I.ok,I.os,I.bare,⟨λb o e n O C=>?_,λb o e n O C=>?_,I.base.free,λb o e C=>?_,I.base.tups,I.base.frzs,I.base.tbls⟩,⟨m,hn.sameBut f (Ne.symm (cne x c B)),λj y Z w G e3=>?_⟩,λy Y e=>?_,I.free,I.freeC,λp hp=>?_,g ⟨oc,R,I.freeC x c B⟩ f,by simpa using I.len⟩ ⟨c,f,.inr B⟩
  ·exact (f.2 b (Nat.ne_of_lt (Nat.lt_of_lt_of_le (Heap.lt_size e) (I.ok.cab x c N B)))).trans (I.base.keep b o e n O C)
  ·obtain⟨sl,w⟩:=I.base.slot b o e n O C
   exact⟨sl,(f.2 b (Nat.ne_of_lt (Nat.lt_of_lt_of_le (Heap.lt_size e) (I.ok.cab x c N B)))).trans w⟩
  ·obtain⟨o',w⟩:=I.base.there b o e C
   exact⟨o',(f.2 b (Nat.ne_of_lt (Nat.lt_of_lt_of_le (Heap.lt_size e) (I.ok.cab x c N B)))).trans w⟩
  ·by_cases L:j=i
   ·subst L
    rw[hi] at w;cases w
    rw[List.getElem?_set_self K] at G
    cases G
    exact⟨u,r,.inr ⟨.inl J,c,B,U⟩⟩
   ·rw[List.getElem?_set_ne (Ne.symm L)] at G
    obtain⟨u',r',q⟩:=hl j y Z w G e3
    refine⟨u',r',?_⟩
    rcases q with q|⟨k,Y,e,z'⟩
    ·exact .inl q
    ·refine .inr ⟨k,Y,e,z'.sameBut f ?_⟩
     rintro rfl
     exact L (Q5 hN w (I.ok.inj _ _ _ e B▸hi))
  ·by_cases T:Y=c
   ·subst T;exact⟨_,U⟩
   ·obtain⟨w2,z2⟩:=I.cell y Y e
    exact⟨w2,z2.sameBut f T⟩
  ·obtain⟨e,n,ne,nf,d⟩:=I.pin p hp
   refine⟨(f.2 p.1 ?_).trans e,n,ne,nf,d⟩
   intro q
   rw[q,R] at e
   have q':oc=p.2:=Option.some.inj e
   exact d W (by rw[<- q'];exact P)
theorem Q6{Q:Unit->Shared->Prop}(I:Inv X pins σ H s)(c:X.N.Nodup)(hi:X.N[i]?=some x)(a:Loc X.env.scope x)(r:Zo v u)
  (h:∀ s',Inv X pins (σ.set i (some v)) H s'->Q () s') (b:X.fn x=true\/X.env.scope.names.lookup x=some .local:=by first|exact .inl rfl|exact .inr rfl|assumption):wpAny M A (storeName X.env x u) Q E s :=
 V7 I c hi a r (λs' e _=>h s' e) b
theorem Inv.call'(I:Inv X pins σ H s)(g:s'.os=s.os)(u:Un (frs X.stack) ch H H' s.heap s'.heap)(hok:HOk X.prog X.w H' s'.heap)(h:AllBare s'.gens)
  (a:∀ b∈ch,(b∈X.ex\/X.s₀.heap.objs.size<=b)/\b≠X.env.locals/\(∀ x c,X.env.cells.lookup x=some c->c≠b)/\∀ p∈X.pn++pins,p.1≠b):Inv X pins σ H' s':=by
 obtain⟨h',g',d',t',f⟩:=s'
 have e:f=s.os:=g
 subst e
 exact I.call (g':=g') (t':=t') (d':=d') u hok h a
end
abbrev XK:=Value->Option Addr->Hp->Prop
abbrev St:=List (Option V)
abbrev VK:=V->Hp->Prop
abbrev TE:=St->Hp->VK->Prop
abbrev TT:=St->Hp->(Bool->Hp->Prop)->Prop
abbrev TA:=St->Hp->(List V->Hp->Prop)->Prop
structure Ends where
 nx:St->Hp->Prop
 rt:VK
 bk:St->Hp->Prop:=λ_ _=>False
 ct:St->Hp->Prop:=λ_ _=>False
abbrev TS:=Ends->St->Hp->Prop
def EP(X:Cx)(pins:List (Addr×Obj))(σ:St)(Q:VK)(u:Value)(s':Shared):Prop:=∃ v H',Inv X pins σ H' s'/\Zo v u/\Q v H'
def TP(X:Cx)(pins:List (Addr×Obj))(σ:St)(Q:Bool->Hp->Prop)(b:Bool)(s':Shared):Prop:=∃ H',Inv X pins σ H' s'/\Q b H'
def AP(X:Cx)(pins:List (Addr×Obj))(σ:St)(Q:List V->Hp->Prop)(us:List Value)(s':Shared):Prop:=∃ vs H',Inv X pins σ H' s'/\Zm vs us/\Q vs H'
def SP(X:Cx)(pins:List (Addr×Obj))(D:Ends)(f:Flow)(s':Shared):Prop :=
 match f with
 | .next=>∃ σ' H',Inv X pins σ' H' s'/\D.nx σ' H'
 | .brk=>∃ σ' H',Inv X pins σ' H' s'/\D.bk σ' H'
 | .cont=>∃ σ' H',Inv X pins σ' H' s'/\D.ct σ' H'
 | .ret u=>∃ v σ' H',Inv X pins σ' H' s'/\Zo v u/\D.rt v H'
def PE(X:Cx)(e:Expr)(t:TE):Prop :=
 ∀ (pins:List (Addr×Obj)) (s:Shared) (σ:St) (H:Hp) (Q:VK),Inv X pins σ H s->t σ H Q->wpAny (model X.prog X.w) X.A (eval e X.env) (EP X pins σ Q) X.xe s
def PT(X:Cx)(e:Expr)(t:TT):Prop :=
 ∀ (pins:List (Addr×Obj)) (s:Shared) (σ:St) (H:Hp) (Q:Bool->Hp->Prop),Inv X pins σ H s->t σ H Q->wpAny (model X.prog X.w) X.A (isTrue e X.env (eval e X.env)) (TP X pins σ Q) X.xe s
def PW(X:Cx)(e:Expr)(t:TT):Prop :=
 ∀ (whole:Sem Value) (pins:List (Addr×Obj)) (s:Shared) (σ:St) (H:Hp) (Q:Bool->Hp->Prop),Inv X pins σ H s->t σ H Q->wpAny (model X.prog X.w) X.A (isTrue e X.env whole) (TP X pins σ Q) X.xe s
variable{e:Expr}
theorem PW.pt{t:TT}(h:PW X e t):PT X e t:=h _
def PA(X:Cx)(es:List Expr)(t:TA):Prop :=
 ∀ (pos:Pos) (pins:List (Addr×Obj)) (s:Shared) (σ:St) (H:Hp) (Q:List V->Hp->Prop),Inv X pins σ H s->t σ H Q->wpAny (model X.prog X.w) X.A (spliced (backTo pos (starEach es X.env))) (AP X pins σ Q) X.xe s
def PS(X:Cx)(st:Stmt)(t:TS):Prop :=
 ∀ (pins:List (Addr×Obj)) (s:Shared) (σ:St) (H:Hp) (D:Ends),Inv X pins σ H s->t D σ H->wpAny (model X.prog X.w) X.A (exec st X.env) (SP X pins D) X.xe s
def PSs(X:Cx)(st:List Stmt)(t:TS):Prop :=
 ∀ (pins:List (Addr×Obj)) (s:Shared) (σ:St) (H:Hp) (D:Ends),Inv X pins σ H s->t D σ H->wpAny (model X.prog X.w) X.A (execs st X.env) (SP X pins D) X.xe s
variable{α:Type}
theorem thn{t:Sem α}{Q b:α->Shared->Prop}(h:wpAny M A t Q E s)(c:∀ a s,Q a s->b a s):wpAny M A t b E s:=wpAny_mono h c λ_ _ x=>x
variable{pos:Pos}{σ:St}{Q:Value->Shared->Prop}
section
def Zu(i:Nat):TE:=λσ H Q=>∃ v,σ[i]?=some (some v)/\Q v H
def tC(v:V):TE:=λ_ H Q=>Q v H
theorem Q7(A:X.N[i]?=some x)(p:Vis X.env.scope x)(hd:(x == ("__debug__" : Str))=false:=by decide)(g:(x == ("__classdict__" : Str))=false:=by decide):PE X (.Name x pos) (Zu i):=by
 intro f s n H Q I h
 obtain⟨v,e,h⟩:=h
 obtain⟨m,q,y⟩:=I.loc
 obtain⟨u,r,l⟩:=y i x v A e p
 have fin:EP X f n Q u s:=⟨v,H,I,r,h⟩
 rcases l with⟨b,w⟩|⟨b,c,j,a⟩
 ·exact wpAny_Name (wpAny_loadName_local I.ok.kind b q w fin) hd
 ·rcases b with b|b
  ·exact wpAny_Name (wpAny_loadName_cell I.ok.kind b j a fin) hd
  ·exact wpAny_Name (wpAny_loadName_free I.ok.kind b j a fin g) hd
theorem Zc{i j pos}:PE X (.Constant (.int i) j pos) (tC (.int i)):=λ_ _ _ H _ I h=>wpAny_Constant_int ⟨.int i,H,I.tok _,⟨_,rfl⟩,h⟩
theorem Wc{b j pos}:PE X (.Constant (.bool b) j pos) (tC (.bl b)):=λ_ _ _ H _ I h=>Constant_bool ⟨.bl b,H,I,rfl,h⟩
theorem Q8{j pos}:PE X (.Constant .none j pos) (tC .non):=λ_ _ _ H _ I h=>Constant_none ⟨.non,H,I,rfl,h⟩
theorem Z6{x j pos}:PE X (.Constant (.str x) j pos) (tC (.str x)):=λ_ _ _ H _ I h=>Calls.Constant_str ⟨.str x,H,I.tok _,⟨_,rfl⟩,h⟩
def Gl(X:Cx)(x:Str):Prop:=X.env.kindOf x=some .globalImplicit
theorem Su(I:Inv X pins σ H s)(b:Gl X x)(a:X.mg x=some u)(h:Q u s)
  (hd:(x == ("__debug__" : Str))=false:=by decide):wpAny (model X.prog X.w) X.A (eval (.Name x pos) X.env) Q E s :=
 Calls.Name_function_global I.ok.kind b (Calls.loadGlobal_global (by rw[I.ok.glob];exact I.mod.glob.keeps I.bk) a h) hd
theorem WQ(I:Inv X pins σ H s)(c:Gl X x)(b:X.mg x=none)(a:bootBuiltins x=some u)(h:Q u s)
  (hn:x ≠ "__name__" := by decide) (hd:(x == ("__debug__" : Str))=false:=by decide):wpAny (model X.prog X.w) X.A (eval (.Name x pos) X.env) Q E s:=by
 obtain⟨g,f,e⟩:=I.mod.blt
 exact Calls.Name_function_global I.ok.kind c (Calls.loadGlobal_builtin (by rw[I.ok.glob];exact I.mod.glob.keeps I.bk) b (by rw[I.ok.blt];exact f.keeps I.bk) ((e x hn).trans a) h) hd
theorem LD(b:Gl X x)(a:X.mg x=some u)(r:Zo v u)(hd:(x == ("__debug__" : Str))=false:=by decide):PE X (.Name x pos) (tC v) :=
 λ_ _ _ H _ I h=>Su I b a ⟨v,H,I,r,h⟩ hd
variable{a b:Expr}{ta tb:TE}
def tB(t:TE):TT:=λσ H Q=>t σ H λx H1=>∃ c,x=.bl c/\Q c H1
theorem LE{t:TE}(h:PE X e t)(g:∀ a,isTrue e X.env a=(do let v <- a;standAt e.pos;holding [v] (truthy v)):=by intro _;rfl):PT X e (tB t):=by
 intro b s c H Q I f
 refine isTrue_plain (thn (h b s c H _ I f) λv s1 ⟨x,H1,I1,r1,q1⟩=>?_) (g _)
 obtain⟨d,rfl,q⟩:=q1
 cases r1
 exact wpAny_truthy_bool ⟨H1,I1,q⟩
variable{tA tB':TT}{rest:List Expr}
def tAnd(t u:TT):TT:=λσ H Q=>t σ H λc H1=>if c=true then u σ H1 Q else Q false H1
def tOr(t u:TT):TT:=λσ H Q=>t σ H λc H1=>if c=true then Q true H1 else u σ H1 Q
theorem UK(g:PT X a tA):PW X (.BoolOp .And [a] pos) tA:=by
 intro i b s f H Q I h
 refine isTrue_and (thn (g b s f H Q I h) λc j e=>?_)
 cases c with
 | true=>exact isTrue_and_nil e
 | false=>exact e
theorem Vo(g:PT X a tA):PW X (.BoolOp .Or [a] pos) tA:=by
 intro i b s f H Q I h
 refine isTrue_or (thn (g b s f H Q I h) λc j e=>?_)
 cases c with
 | false=>exact isTrue_or_nil e
 | true=>exact e
theorem UL(i:PT X a tA)(hb:PW X (.BoolOp .And (b::rest) pos) tB'):PW X (.BoolOp .And (a::b::rest) pos) (tAnd tA tB'):=by
 intro g e s f H Q I h
 refine isTrue_and (thn (i e s f H _ I h) λc s1 ⟨H1,I1,q1⟩=>?_)
 cases c with
 | true=>exact hb g e s1 f H1 Q I1 q1
 | false=>exact⟨H1,I1,q1⟩
theorem WR(i:PT X a tA)(hb:PW X (.BoolOp .Or (b::rest) pos) tB'):PW X (.BoolOp .Or (a::b::rest) pos) (tOr tA tB'):=by
 intro g e s f H Q I h
 refine isTrue_or (thn (i e s f H _ I h) λc s1 ⟨H1,I1,q1⟩=>?_)
 cases c with
 | true=>exact⟨H1,I1,q1⟩
 | false=>exact hb g e s1 f H1 Q I1 q1
def tIf(t:TT)(ta tb:TE):TE:=λσ H Q=>t σ H λc H1=>if c=true then ta σ H1 Q else tb σ H1 Q
theorem Q9{c:Expr}(g:PT X c tA)(i:PE X a ta)(hb:PE X b tb):PE X (.IfExp c a b pos) (tIf tA ta tb):=by
 intro e s f H Q I h
 refine wpAny_IfExp (thn (g e s f H _ I h) λd s1 ⟨H1,I1,q1⟩=>?_)
 cases d with
 | true=>exact i e s1 f H1 Q I1 q1
 | false=>exact hb e s1 f H1 Q I1 q1
end
def SqL(K:W.Frag)(H:Hp)(a:Addr)(xs:List V):Prop :=
 Rd H a (.lst xs) \/
  ∃ (o:Obj) (its:Array Value) (n:Nat),K.lookup a=some o/\o.cls=.type "list" /\ o.dict=none/\o.data=.seq its n/\its.size<=sizeLine/\Zm xs its.toList
def SqT(K:W.Frag)(H:Hp)(a:Addr)(xs:List V):Prop :=
 Rd H a (.tup xs) \/
  ∃ (o:Obj) (its:Array Value) (n:Nat),K.lookup a=some o/\o.cls=.type "tuple" /\ o.data=.seq its n/\its.size<=sizeLine/\Zm xs its.toList
def absV:Value->Option V
 | .none=>some .non
 | .bool b=>some (.bl b)
 | .int i _=>some (.int i)
 | .str x _=>some (.str x)
 | .bytes b _=>some (.byt b)
 | .float b _=>some (.flt b)
 | .ref a=>some (.ref a)
 | .type n=>some (.ty n)
 | _=>none
theorem Zo.abs{x:V}(r:Zo x u):absV u=some x:=by
 cases x with
 | non=>cases r;rfl
 | bl _=>cases r;rfl
 | int _=>obtain⟨t,rfl⟩:=r;rfl
 | str _=>obtain⟨t,rfl⟩:=r;rfl
 | byt _=>obtain⟨t,rfl⟩:=r;rfl
 | flt _=>obtain⟨t,rfl⟩:=r;rfl
 | ref _=>cases r;rfl
 | ty _=>cases r;rfl
theorem Zo.inj{x y:V}{u:Value}(r:Zo x u)(q:Zo y u):x=y:=Option.some.inj (r.abs.symm.trans q.abs)
theorem Zm.inj:∀ {xs ys:List V} {us:List Value},Zm xs us->Zm ys us->xs=ys
 | _,_,_,.nil,.nil=>rfl
 | _,_,_,.cons r t,.cons r' t'=>by rw[r.inj r',Zm.inj t t']
variable{K:W.Frag}
section
variable{xs ys:List V}
theorem SqL.of(h:H a=some (.lst xs)):SqL K H a xs:=.inl (.inl h)
theorem SqT.of(h:H a=some (.tup xs)):SqT K H a xs:=.inl (.inl h)
theorem Inv.list(I:Inv X pins σ H s)(h:SqL X.K H a xs):∃ its:List Value,Zm xs its/\PlainL s.heap a its.toArray/\xs.length<=sizeLine:=by
 rcases h with h|⟨o,its,n,hk,hc,hd,hs,hz,r⟩
 ·obtain⟨z,its,n,r,e⟩:=h.ok I.hok
  exact⟨its,r,⟨_,n,e,rfl,rfl,rfl⟩,z⟩
 ·refine⟨its.toList,r,⟨o,n,I.kIn a o hk,hc,hd,by simpa using hs⟩,?_⟩
  have e:=r.length
  simp only[Array.length_toList] at e
  omega
theorem Inv.tuple(I:Inv X pins σ H s)(h:SqT X.K H a xs):∃ its:List Value,Zm xs its/\IsTup s.heap a its.toArray/\xs.length<=sizeLine:=by
 rcases h with h|⟨o,its,n,hk,hc,hs,hz,r⟩
 ·obtain⟨z,its,r,p⟩:=h.ok I.hok
  exact⟨its,r,p,z⟩
 ·refine⟨its.toList,r,⟨o,I.kIn a o hk,hc,n,by simpa using hs⟩,?_⟩
  have e:=r.length
  simp only[Array.length_toList] at e
  omega
theorem Inv.list_inj(I:Inv X pins σ H s)(h:SqL X.K H a xs)(h':SqL X.K H a ys):xs=ys:=by
 obtain⟨b,r,⟨o,n,e,_,_,d⟩,_⟩:=I.list h
 obtain⟨its',f,⟨g,i,c,_,_,d'⟩,_⟩:=I.list h'
 rw[e] at c;cases c
 rw[d] at d'
 injection d' with d1 _
 have:b=its':=by simpa using congrArg Array.toList d1
 subst this
 exact r.inj f
theorem Inv.tuple_inj(I:Inv X pins σ H s)(h:SqT X.K H a xs)(h':SqT X.K H a ys):xs=ys:=by
 obtain⟨b,r,⟨o,e,_,n,d⟩,_⟩:=I.tuple h
 obtain⟨its',f,⟨g,c,_,i,d'⟩,_⟩:=I.tuple h'
 rw[e] at c;cases c
 rw[d] at d'
 injection d' with d1 _
 have:b=its':=by simpa using congrArg Array.toList d1
 subst this
 exact r.inj f
end
abbrev Cx.wish(X:Cx)(E:Value->Shared->Prop):Cx:={ X with xe:=E }
abbrev Cx.nox(X:Cx):Cx:=X.wish λ_ _=>False
theorem Cx.Ok.wish{X:Cx}(ok:X.Ok)(E:Value->Shared->Prop):(X.wish E).Ok :=
 ⟨ok.mod,ok.kind,ok.glob,ok.blt,ok.above,ok.inj,ok.has,ok.cab,ok.hd,ok.frames,ok.stk,ok.exf,ok.bs,ok.bsz,ok.noex,ok.exfs,ok.funs,ok.frf⟩
theorem Cx.Ok.unwish(ok:(X.wish E).Ok):X.Ok :=
 ⟨ok.mod,ok.kind,ok.glob,ok.blt,ok.above,ok.inj,ok.has,ok.cab,ok.hd,ok.frames,ok.stk,ok.exf,ok.bs,ok.bsz,ok.noex,ok.exfs,ok.funs,ok.frf⟩
theorem Inv.wish(I:Inv X pins σ H s)(E:Value->Shared->Prop):Inv (X.wish E) pins σ H s:=⟨I.ok.wish E,I.os,I.bare,I.base,I.loc,I.cell,I.free,I.freeC,I.pin,I.hok,I.len⟩
theorem Inv.unwish(I:Inv (X.wish E) pins σ H s):Inv X pins σ H s:=⟨I.ok.unwish,I.os,I.bare,I.base,I.loc,I.cell,I.free,I.freeC,I.pin,I.hok,I.len⟩
theorem SP.unwish{D:Ends}{f:Flow}{s':Shared}(h:SP (X.wish E) pins D f s'):SP X pins D f s':=by
 cases f with
 | next=>obtain⟨a,b,I,q⟩:=h;exact⟨a,b,I.unwish,q⟩
 | brk=>obtain⟨a,b,I,q⟩:=h;exact⟨a,b,I.unwish,q⟩
 | cont=>obtain⟨a,b,I,q⟩:=h;exact⟨a,b,I.unwish,q⟩
 | ret u=>obtain⟨v,a,b,I,r,q⟩:=h;exact⟨v,a,b,I.unwish,r,q⟩
theorem PSs.nox{st:List Stmt}{t:TS}(h:PSs X.nox st t):PSs X st t:=λa s b H D I c =>
 wpAny_mono (h a s b H D (I.wish _) c) (λ_ _ q=>q.unwish) λ_ _ z=>False.elim z
variable{st:Stmt}{te:TE}{tc:TT}
section
variable{rest:List Stmt}{t u:TS}
def UM:TS:=λD σ H=>D.nx σ H
def Sw(t u:TS):TS:=λD σ H=>t { D with nx:=u D } σ H
theorem ZO:PSs X [] UM:=λ_ _ a H _ I h=>wpAny_execs_nil ⟨a,H,I,h⟩
theorem Ze(h1:PS X st t)(h2:PSs X rest u):PSs X (st::rest) (Sw t u):=by
 intro a s c H D I h
 refine wpAny_execs_cons (thn (h1 a s c H { D with nx:=u D } I h) λf e q=>?_)
 cases f with
 | next =>
  obtain⟨b,i,g,q⟩:=q
  exact h2 a e b i D g q
 | ret v=>exact q
 | brk=>exact q
 | cont=>exact q
theorem Zh(h1:PS X st t):PSs X [st] t:=by
 intro a s b H D I h
 refine wpAny_execs_cons (thn (h1 a s b H D I h) λf c q=>?_)
 cases f with
 | next=>exact wpAny_execs_nil q
 | ret v=>exact q
 | brk=>exact q
 | cont=>exact q
theorem Inv.quiet(I:Inv X pins σ H s):interactive X.env=false:=by simp[interactive,I.ok.kind]
def YK(te:TE):TS:=λD σ H=>te σ H λ_ H1=>D.nx σ H1
theorem Yh(f:PE X e te)(c:swapsWith e none pos.line X.env=pure false:=by rfl):PS X (.Expr e pos) (YK te):=by
 intro a s b H D I h
 exact wpAny_Expr_any (thn (f a s b H _ I h) λv s1 ⟨x,H1,I1,r1,q1⟩=>⟨b,H1,I1,q1⟩) I.quiet c
def WS(te:TE):TS:=λD σ H=>te σ H D.rt
theorem Zq(c:PE X e te):PS X (.Return (some e) pos) (WS te):=by
 intro a s b H D I h
 exact wpAny_Return_some (thn (c a s b H _ I h) λv s1 ⟨x,H1,I1,r1,q1⟩=>⟨x,b,H1,I1,r1,q1⟩)
def V8(c:TT)(t u:TS):TS:=λD σ H=>c σ H λb H1=>if b=true then t D σ H1 else u D σ H1
theorem Z3{c:Expr}{a b:List Stmt}(g:PT X c tc)(i:PSs X a t)(hb:PSs X b u):PS X (.If c a b pos) (V8 tc t u):=by
 intro e s f H D I h
 refine wpAny_If (thn (g e s f H _ I h) λd s1 ⟨H1,I1,q1⟩=>?_)
 cases d with
 | true=>exact i e s1 f H1 D I1 q1
 | false=>exact hb e s1 f H1 D I1 q1
def LF:TS:=λ_ _ _=>False
theorem Vp:PS X st LF:=λ_ _ _ _ _ _ h=>h.elim
end
abbrev TG:=V->St->Hp->(St->Hp->Prop)->Prop
abbrev TGs:=List V->St->Hp->(St->Hp->Prop)->Prop
def PG(X:Cx)(target:Expr)(t:TG):Prop :=
 ∀ (pins:List (Addr×Obj)) (s:Shared) (σ:St) (H:Hp) (v:V) (u:Value) (Q:St->Hp->Prop),Inv X pins σ H s->Zo v u->t v σ H Q ->
  wpAny (model X.prog X.w) X.A (assign target X.env u) (λ_ s'=>∃ σ' H',Inv X pins σ' H' s'/\Q σ' H') X.xe s
def PGs(X:Cx)(ts:List Expr)(t:TGs):Prop :=
 ∀ (pins:List (Addr×Obj)) (s:Shared) (σ:St) (H:Hp) (vs:List V) (us:List Value) (Q:St->Hp->Prop),Inv X pins σ H s->Zm vs us->t vs σ H Q ->
  wpAny (model X.prog X.w) X.A (assignInOrder ((assignEach ts X.env).map (·.2)) us) (λ_ s'=>∃ σ' H',Inv X pins σ' H' s'/\Q σ' H') X.xe s
abbrev V9:=V->V->V->Hp->(Hp->Prop)->Prop
def Sx(X:Cx)(t:V9):Prop :=
 ∀ (pins:List (Addr×Obj)) (s:Shared) (σ:St) (H:Hp) (o i v:V) (ov iv u:Value) (Q:Hp->Prop),Inv X pins σ H s->Zo o ov->Zo i iv->Zo v u->t o i v H Q ->
  wpAny (model X.prog X.w) X.A (setItem ov iv u) (λ_ s'=>∃ H',Inv X pins σ H' s'/\Q H') X.xe s
variable{n:Nat}{to ti:TE}{tg:Expr}{g:TG}{pos':Pos}{es:List Expr}
def ZR(i:Nat):TG:=λv σ H Q=>Q (σ.set i (some v)) H
theorem ZI(e:X.N.Nodup)(hi:X.N[i]?=some x)(b:Loc X.env.scope x)(c:X.fn x=true\/X.env.scope.names.lookup x=some .local:=by first|exact .inl rfl|exact .inr rfl|assumption):PG X (.Name x pos) (ZR i):=by
 intro a s g H v u Q I r h
 exact wpAny_assign_Name (Q6 I e hi b r (λj f=>⟨_,H,f,h⟩) c)
def Sy:TGs:=λvs σ H Q=>vs=[]/\Q σ H
def Vq(t:TG)(u:TGs):TGs:=λvs σ H Q=>∃ v r,vs=v::r/\t v σ H λσ' H'=>u r σ' H' Q
theorem Ua:PGs X [] Sy:=by
 intro a s b H vs us Q I r h
 obtain⟨e,h⟩:=h
 subst e
 cases r
 exact assignInOrder_nil ⟨b,H,I,h⟩
theorem Xk{t:TG}{u:TGs}(h1:PG X e t)(h2:PGs X es u)
  (f:(assignEach (e::es) X.env).map (·.2)=assign e X.env::(assignEach es X.env).map (·.2):=by rfl):PGs X (e::es) (Vq t u):=by
 intro a s b H vs us Q I r h
 obtain⟨v,i,g,h⟩:=h
 subst g
 cases r with
 | cons r c =>
  rw[f]
  refine assignInOrder_cons (thn (h1 a s b H _ _ _ I r h) λ_ s1 ⟨σ1,H1,I1,q1⟩=>?_)
  exact h2 a s1 σ1 H1 _ _ Q I1 c q1
def Sz(K:W.Frag)(n:Nat)(t:TGs):TG:=λv σ H Q=>∃ a xs,v=.ref a/\SqT K H a xs/\xs.length=n/\t xs σ H Q
theorem LG{k:Nat}{t:TGs}(y:X.calm=true)(h:PGs X es t)
  (hn:(assignEach es X.env).length=n:=by rfl) (g:(assignEach es X.env).findIdx? (·.1)=none:=by rfl):PG X (.Tuple es k pos) (Sz X.K n t):=by
 intro c s i H v u Q I r f
 obtain⟨a,xs,A,w,x,f⟩:=f
 subst A
 cases r
 obtain⟨m,j,q,hz⟩:=I.tuple w
 refine assign_Tuple_tuple (I.ok.hd y) q (by simp[hn,<- x,j.length]) g λh' p=>?_
 have B:Inv X c i H { s with heap:=h' }:=I.kept (t':=s.toks) λb o e=>p b o (Nat.ne_of_lt (Heap.lt_size e)) e
 exact h c _ i H xs _ Q B (by simpa using j) f
def Vr(to ti:TE)(t:V9):TG:=λv σ H Q=>to σ H λo H1=>ti σ H1 λi H2=>t o i v H2 λH3=>Q σ H3
theorem UN{o i:Expr}{t:V9}(e:PE X o to)(hi:PE X i ti)(c:Sx X t)
  (f:∀ v,assign (.Subscript o i pos) X.env v=(do
   let ov <- holding [v] (eval o X.env)
   let iv <- holding [v,ov] (eval i X.env)
   standAt pos
   holding [v,ov,iv] (setItem ov iv v)
   release [v,ov,iv] []):=by intro _;rfl):PG X (.Subscript o i pos) (Vr to ti t):=by
 intro a s b H v u Q I r h
 rw[f]
 refine wpAny_bind (wpAny_holding (thn (e a s b H _ I h) λov s1 ⟨x,H1,I1,r1,q1⟩=>?_))
 refine wpAny_bind (wpAny_holding (thn (hi a s1 b H1 _ I1 q1) λiv s2 ⟨y,H2,I2,r2,q2⟩=>?_))
 refine wpAny_bind (wpAny_standAt (wpAny_bind (wpAny_holding (thn (c a s2 b H2 x y v ov iv u _ I2 r1 r2 r q2) λ_ s3 ⟨H3,I3,q3⟩=>?_))))
 exact wpAny_release ⟨b,H3,I3,q3⟩
def Yc(te:TE)(g:TG):TS:=λD σ H=>te σ H λx H1=>g x σ H1 D.nx
theorem Ub(i:PE X e te)(f:PG X tg g)(c:swapsWithSole [tg] e pos.line X.env=pure false:=by rfl)(hw:swappedStores [tg] e X.env=pure none:=by rfl)
  (h1:(assignEach [tg] X.env).map (·.2)=[assign tg X.env]:=by rfl):PS X (.Assign [tg] e pos) (Yc te g):=by
 intro a s b H D I h
 refine wpAny_Assign_stores (thn (i a s b H _ I h) λv s1 ⟨x,H1,I1,r1,q1⟩=>?_) c hw
 rw[h1]
 exact thn (f a s1 b H1 x v _ I1 r1 q1) λ_ j q=>q
theorem Zp(m:X.N.Nodup)(hi:X.N[i]?=some x)(c:Loc X.env.scope x)(j:PE X e te)(f:swapsWith e (some (.Name x pos')) pos.line X.env=pure false:=by rfl)(g:X.fn x=true\/X.env.scope.names.lookup x=some .local:=by first|exact .inl rfl|exact .inr rfl|assumption) :
  PS X (.Assign [.Name x pos'] e pos) (Yc te (ZR i)):=by
 intro a s b H D I h
 refine wpAny_Assign_Name (thn (j a s b H _ I h) λv s1 ⟨y,H1,I1,r1,q1⟩=>?_) f
 exact Q6 I1 m hi c r1 (λp n=>⟨_,H1,n,q1⟩) g
variable{tb:TS}{body:List Stmt}
def SA(c:TT)(tb:TS):TS:=λD σ H=>∃ W:Nat->St->Hp->Prop,(∃ m,W m σ H)/\∀ m σ H,W m σ H ->
 c σ H λb H1=>if b=true then ∃ N:St->Hp->Prop,(∀ σ' H',N σ' H'->∃ m',m' < m/\W m' σ' H')/\tb { D with nx:=N,ct:=N,bk:=D.nx } σ H1 else D.nx σ H1
theorem SB{c:Expr}(x:PassesOwn (model X.prog X.w) X.A X.env X.xe)(G:PT X c tc)(hb:PSs X body tb):PS X (.While c body [] pos) (SA tc tb):=by
 intro e s B H D I h
 obtain⟨W,⟨F,C⟩,turn⟩:=h
 refine wpAny_While (codeAny_whileLoop (λn E=>∃ g A,Inv X e g A E/\W n g A) ?_ F ⟨B,H,I,C⟩)
 rintro n s1 ⟨σ1,H1,I1,w1⟩
 refine wpAny_passesOwn x (thn (G e s1 σ1 H1 _ I1 (turn n σ1 H1 w1)) λb s2 ⟨H2,I2,m⟩=>?_)
 cases b with
 | true =>
  obtain⟨N,y,m⟩:=m
  rw[if_pos rfl]
  refine wpAny_passesOwn x (thn (hb e s2 σ1 H2 _ I2 m) λf J j=>?_)
  cases f with
  | next =>
   obtain⟨a,i,w,q⟩:=j
   obtain⟨r,u,p⟩:=y a i q
   exact⟨r,u,a,i,w,p⟩
  | cont =>
   obtain⟨a,i,w,q⟩:=j
   obtain⟨r,u,p⟩:=y a i q
   exact⟨r,u,a,i,w,p⟩
  | brk=>exact j
  | ret v=>exact j
 | false =>
  rw[if_neg Bool.false_ne_true]
  exact wpAny_execs_nil ⟨σ1,H2,I2,m⟩
structure It where
 go:Nat->Hp->Prop
 yld:Nat->Hp->V->Hp->Prop
 stop:Nat->Hp->Prop
def Yy(X:Cx)(pins:List (Addr×Obj))(H:Hp)(b:Addr):Prop :=
 H b=none/\b≠X.env.locals/\b∉X.fs/\(b∈X.ex\/X.s₀.heap.objs.size<=b)/\(∀ x c,X.env.cells.lookup x=some c->c≠b)/\∀ p∈X.pn++pins,p.1≠b
theorem Inv.fpOk(I:Inv X pins σ H s)(hb:s.heap.objs.size<=b)(hn:H' b=none):Yy X pins H' b:=by
 refine⟨hn,Nat.ne_of_gt (Nat.lt_of_lt_of_le I.lt hb),I.nofs hb,.inr (Nat.le_trans I.sz hb),λx c e z=>?_,λp a z=>?_⟩
 ·obtain⟨v,q⟩:=I.cell x c e
  exact absurd (Nat.lt_of_lt_of_le q.lt (by rw[z];exact hb)) (Nat.lt_irrefl _)
 ·exact absurd (Nat.lt_of_lt_of_le (Heap.lt_size (I.pin p a).1) (by rw[z];exact hb)) (Nat.lt_irrefl _)
structure Turn(P:Program)(w:World)(K:W.Frag)(tg:Expr)(J:It)(fp:List Addr)(it:Addr)(tn:Nat->Heap->Prop):Prop where
 mem:it∈fp
 obj:∀ i h,tn i h->∀ b∈fp,∃ o,h.get? b=some o/\∀ v,o.data≠.cell v
 keep:∀ i h h',tn i h->(∀ b∈fp,∀ o,h.get? b=some o->h'.get? b=some o)->tn i h'
 item:∀ (X:Cx),X.prog=P->X.w=w->X.K=K->X.calm=true->∀ (i:Nat) (pins:List (Addr×Obj)) (s:Shared) (σ:St) (H:Hp) (E:Value->Shared->Prop),Inv X pins σ H s->(∀ b∈fp,Yy X pins H b)->tn i s.heap->J.go i H ->
  wpAny (model P w) X.A (pyNext (.ref it)) (λr s1=>∃ u,r=some u /\
   wpAny (model P w) X.A (letOwnedTupleGo tg (.ref it) u) (λ_ s2=>∃ x H',Inv X pins σ H' s2/\Zo x u/\J.yld i H x H'/\tn (i+1) s2.heap/\∀ b∈fp,H' b=none) E s1) E s
 done:∀ (X:Cx),X.prog=P->X.w=w->X.K=K->X.calm=true->∀ (i:Nat) (pins:List (Addr×Obj)) (s:Shared) (σ:St) (H:Hp) (E:Value->Shared->Prop),Inv X pins σ H s->(∀ b∈fp,Yy X pins H b)->tn i s.heap->J.stop i H ->
  wpAny (model P w) X.A (pyNext (.ref it)) (λr s1=>r=none/\Inv X pins σ H s1) E s
 self:∀ (A:Around) (i:Nat) (s:Shared) (Q:Value->Shared->Prop) (E:Value->Shared->Prop),tn i s.heap->Q (.ref it) s->wpAny (model P w) A (pyIter (.ref it)) Q E s
abbrev TI:=St->Hp->(It->Hp->Prop)->Prop
def PIE(X:Cx)(pins:List (Addr×Obj))(σ:St)(tg:Expr)(R:It->Hp->Prop)(itv:Value)(s2:Shared):Prop :=
 ∃ (it:Addr) (fp:List Addr) (tn:Nat->Heap->Prop) (J:It) (H':Hp),itv=.ref it/\Inv X pins σ H' s2/\Turn X.prog X.w X.K tg J fp it tn/\tn 0 s2.heap/\(∀ b∈fp,Yy X pins H' b)/\R J H'
def PI(X:Cx)(tg iter:Expr)(wi:TI):Prop :=
 ∀ (pins:List (Addr×Obj)) (s:Shared) (σ:St) (H:Hp) (R:It->Hp->Prop),Inv X pins σ H s->wi σ H R ->
  wpAny (model X.prog X.w) X.A (eval iter X.env) (λv s1=>wpAny (model X.prog X.w) X.A (pyIter v) (PIE X pins σ tg R) X.xe s1) X.xe s
theorem SC{o:Obj}{n:String}{vs:Array Value}{Q:Unit->Shared->Prop}(b:s.heap.get? it=some o)(c:o.cls=.type n)(hd:o.data=.fields vs)
    (hn:["enumerate", "zip", "dict_itemiterator", "dict_reverseitemiterator", "odict_iterator", "itertools.zip_longest", "itertools.pairwise"].contains n=false) (a:Q () s):wpAny M A (letOwnedTupleGo tg (.ref it) u) Q E s:=by
  unfold letOwnedTupleGo
  cases tg<;>first
    | exact wpAny_pure a
    | (cases u<;>first
        | exact wpAny_pure a
        | (refine wpAny_bind (wpAny_load b ?_)
           rw[c,hd]
           show wpAny M A (if (["enumerate", "zip", "dict_itemiterator", "dict_reverseitemiterator", "odict_iterator", "itertools.zip_longest", "itertools.pairwise"].contains n && vs[0]? == some (rawInt _))=true then _ else _) Q E s
           rw[if_neg (by intro h;rw[hn,Bool.false_and] at h;cases h)]
           exact wpAny_pure a))
def Itl(K:W.Frag)(a:Addr):It :=
 ⟨λi H=>∃ xs x,SqL K H a xs/\xs[i]?=some x,λi H x H'=>H'=H/\∀ xs,SqL K H a xs->xs[i]?=some x,λi H=>∃ xs,SqL K H a xs/\xs.length<=i⟩
def Itt(K:W.Frag)(a:Addr):It :=
 ⟨λi H=>∃ xs x,SqT K H a xs/\xs[i]?=some x,λi H x H'=>H'=H/\∀ xs,SqT K H a xs->xs[i]?=some x,λi H=>∃ xs,SqT K H a xs/\xs.length<=i⟩
def Itr(lo:Int)(n:Nat):It:=⟨λi _=>i<n,λi H x H'=>H'=H/\x=.int (lo+i),λi _=>n<=i⟩
theorem LH(a it:Addr):Turn P w K tg (Itl K a) [it] it (λi h=>h.IsListIter it a i) where
 mem:=by simp
 obj:=λi h f b j=>by
  have e:b=it:=by simpa using j
  subst e
  obtain⟨o,e,c,d⟩:=f
  exact⟨o,e,λv z=>by rw[d] at z;cases z⟩
 keep:=λi h h' f k=>f.at λo e=>k it (by simp) o e
 item:=by
  intro X F B G R i g s Q H E I q f C
  subst F B G
  obtain⟨xs,x,n,A⟩:=C
  obtain⟨y,r,p,hz⟩:=I.list n
  obtain⟨u,W,T⟩:=r.get A
  obtain⟨O,N,Y,M,L,J⟩:=q it (by simp)
  refine wpAny_pyNext_list_item f p.isList (x:=u) (by simpa using W) λh' m S=>?_
  have I1:Inv X g Q H { s with heap:=h' }:=I.turned (t':=s.toks) (λb o j e=>(S.2 b j).trans e) O N M L J
  obtain⟨o,e,c,d⟩:=id m
  exact⟨u,rfl,SC (s:={ s with heap:=h' }) e c d (by decide) ⟨x,H,I1,T,⟨rfl,λys U=>by rw[I.list_inj U n];exact A⟩,m,λb j=>(q b j).1⟩⟩
 done:=by
  intro X F B G R i g s Q H E I q f C
  subst F B G
  obtain⟨xs,n,A⟩:=C
  obtain⟨y,r,p,hz⟩:=I.list n
  obtain⟨O,N,Y,M,L,J⟩:=q it (by simp)
  have hl:=r.length
  exact wpAny_pyNext_list_end (I.ok.hd R) f p.isList (by simp;omega) λh' Z=>⟨rfl,I.turned (t':=s.toks) (λb o j e=>Z b o j e) O N M L J⟩
 self:=λ_ _ _ _ _ f h=>wpAny_pyIter_listiter f h
theorem LI(a it:Addr):Turn P w K tg (Itt K a) [it] it (λi h=>h.IsTupleIter it a i) where
 mem:=by simp
 obj:=λi h f b m=>by
  have e:b=it:=by simpa using m
  subst e
  obtain⟨o,e,c,d⟩:=f
  exact⟨o,e,λv z=>by rw[d] at z;cases z⟩
 keep:=λi h h' f k=>f.at λo e=>k it (by simp) o e
 item:=by
  intro X F B G R i g s Q H E I r f C
  subst F B G
  obtain⟨xs,x,q,A⟩:=C
  obtain⟨j,y,p,hz⟩:=I.tuple q
  obtain⟨u,W,T⟩:=y.get A
  obtain⟨O,N,Y,M,L,J⟩:=r it (by simp)
  refine wpAny_pyNext_tuple_item f (show s.heap.IsTuple a j.toArray from p) (x:=u) (by simpa using W) λh' n S=>?_
  have I1:Inv X g Q H { s with heap:=h' }:=I.turned (t':=s.toks) (λb o m e=>(S.2 b m).trans e) O N M L J
  obtain⟨o,e,c,d⟩:=id n
  exact⟨u,rfl,SC (s:={ s with heap:=h' }) e c d (by decide) ⟨x,H,I1,T,⟨rfl,λys U=>by rw[I.tuple_inj U q];exact A⟩,n,λb m=>(r b m).1⟩⟩
 done:=by
  intro X F B G R i g s Q H E I r f C
  subst F B G
  obtain⟨xs,q,A⟩:=C
  obtain⟨j,y,p,hz⟩:=I.tuple q
  obtain⟨O,N,Y,M,L,J⟩:=r it (by simp)
  have hl:=y.length
  exact wpAny_pyNext_tuple_end (I.ok.hd R) f (show s.heap.IsTuple a j.toArray from p) (by simp;omega) λh' Z=>⟨rfl,I.turned (t':=s.toks) (λb o m e=>Z b o m e) O N M L J⟩
 self:=λ_ _ _ _ _ f h=>wpAny_pyIter_tupleiter f h
theorem LJ(it:Addr)(lo:Int)(n:Nat):Turn P w K tg (Itr lo n) [it] it (λi h=>IsRangeIter h it (lo+(i:Nat)*1) ((n:Int)-(i:Nat)) 1) where
 mem:=by simp
 obj:=λi h a b f=>by
  have e:b=it:=by simpa using f
  subst e
  exact⟨_,a,λv z=>by
   have J:Data.fields _=Data.cell v:=z
   cases J⟩
 keep:=λi h h' a k=>k it (by simp) _ a
 item:=by
  intro X r m u q i c s F H E I j a p
  subst r m u
  obtain⟨C,B,N,A,y,x⟩:=j it (by simp)
  have W:=Walks.range (prog:=X.prog) (w:=X.w) (I.ok.hd q) it lo 1 n
  refine W.item i s _ _ p a λv h' G M g L=>?_
  obtain⟨t,rfl⟩:=M
  have Q:Inv X c F H { s with heap:=h',toks:=G }:=I.turned (λb o f e=>L b o (by simpa using f) e) C B A y x
  refine⟨_,rfl,SC (s:={ s with heap:=h',toks:=G }) (n := "range_iterator") g rfl rfl (by decide) ⟨.int (lo+i),H,Q,⟨t,?_⟩,⟨rfl,rfl⟩,g,λb f=>(j b f).1⟩⟩
  rw[Int.mul_one]
 done:=by
  intro X r m u q i c s F H E I j a p
  subst r m u
  obtain⟨C,B,N,A,y,x⟩:=j it (by simp)
  exact wpAny_pyNext_range_end (I.ok.hd q) a (by have:n<=i:=p;omega) λh' O=>⟨rfl,I.turned (t':=s.toks) (λb o f e=>O b o f e) C B A y x⟩
 self:=λ_ _ _ _ _ a h=>wpAny_pyIter_rangeiter a h
variable{lo:Int}{tk:Nat}{ta:TA}{iter:Expr}{wi:TI}{fp:List Addr}
theorem Pa{R:It->Hp->Prop}{hi:Int}{t u v:Tok}(I:Inv X pins σ H s)(h1:-(2 ^ 62)<=lo)(h2:lo<2 ^ 62)(g:-(2 ^ 62)<=hi)(f:hi<2 ^ 62)
  (q:R (Itr lo (hi-lo).toNat) H):wpAny (model X.prog X.w) X.A (pyIter (.ref s.heap.objs.size)) (PIE X pins σ tg R) E { s with heap:=s.heap.push { cls:=.type "range",data:=.fields #[.int lo t,.int hi u,.int 1 v] },toks:=tk }:=by
 refine wpAny_pyIter_range (IsRange.new ..) (small_one h1 h2 g f) ?_
 have a:Inv X pins σ H { s with heap:=s.heap.push { cls:=.type "range",data:=.fields #[.int lo t,.int hi u,.int 1 v] },toks:=tk }:=I.kept λb o e=>Heap.get?_push_of_some _ e
 refine⟨(s.heap.push { cls:=.type "range",data:=.fields #[.int lo t,.int hi u,.int 1 v] }).objs.size,[(s.heap.push { cls:=.type "range",data:=.fields #[.int lo t,.int hi u,.int 1 v] }).objs.size],_,_,H,rfl,
  a.kept (t':=tk) λb o e=>Heap.get?_push_of_some _ e,LJ _ lo (hi-lo).toNat,?_,λb c=>?_,q⟩
 ·have i:lo+((0:Nat):Int)*1=lo:=by simp
  have h:(((hi-lo).toNat:Nat):Int)-((0:Nat):Int)=Builtin.Range.rangeSize lo hi 1:=by rw[rangeSize_one];split<;>omega
  show IsRangeIter _ _ (lo+((0:Nat):Int)*1) ((((hi-lo).toNat:Nat):Int)-((0:Nat):Int)) 1
  rw[i,h]
  exact Heap.get?_push_size _ rfl
 ·have e:b=(s.heap.push { cls:=.type "range",data:=.fields #[.int lo t,.int hi u,.int 1 v] }).objs.size:=by simpa using c
  subst e
  exact a.fpOk (Nat.le_refl _) (a.hok.fresh (Nat.le_refl _))
def UO(ta:TA):TI:=λσ H R=>ta σ H λvs H1=>∃ j:Int,vs=[.int j]/\-(2 ^ 62)<=j/\j<2 ^ 62/\R (Itr 0 j.toNat) H1
def SD(ta:TA):TI:=λσ H R=>ta σ H λvs H1=>∃ i j:Int,vs=[.int i,.int j]/\(-(2 ^ 62)<=i/\i<2 ^ 62/\-(2 ^ 62)<=j/\j<2 ^ 62)/\R (Itr i (j-i).toNat) H1
theorem XM{a:Expr}{p:Pos}(u:Gl X "range")(n:X.mg "range" = none)(v:PA X [a] ta)(m:starEach [a] X.env=[(false,eval a X.env)]:=by rfl):PI X tg (.Call (.Name "range" p) [a] [] pos) (UO ta):=by
 intro b s f H R I h
 refine Call_ (WQ I u n boot_range (PyProof.Rows.callWith_type1 (thn (v pos b s f H _ I h) λus s1 ⟨vs,H1,I1,r1,c⟩=>?_) m rfl))
 obtain⟨j,e,c,i,q⟩:=c
 subst e
 cases r1 with
 | cons r g =>
  cases g
  obtain⟨t,rfl⟩:=r
  exact call_range_1 (Pa I1 (by omega) (by omega) c i (by simpa using q))
theorem LK{a b:Expr}{p:Pos}(B:Gl X "range")(A:X.mg "range" = none)(C:PA X [a,b] ta)(y:starEach [a,b] X.env=[(false,eval a X.env),(false,eval b X.env)]:=by rfl)(f:starEach [b] X.env=[(false,eval b X.env)]:=by rfl) :
  PI X tg (.Call (.Name "range" p) [a,b] [] pos) (SD ta):=by
 intro c s n H R I h
 refine Call_ (WQ I B A boot_range (PyProof.Rows.callWith_type1 (thn (C pos c s n H _ I h) λus s1 ⟨vs,H1,I1,r1,m⟩=>?_) (by rw[y,f]) (by rw[f];rfl)))
 obtain⟨i,j,e,⟨m,x,w,v⟩,q⟩:=m
 subst e
 cases r1 with
 | cons r g =>
  cases g with
  | cons u g =>
   cases g
   obtain⟨t,rfl⟩:=r
   obtain⟨t',rfl⟩:=u
   exact call_range_2 (Pa I1 m x w v q)
def Vs(wi:TI)(g:TG)(tb:TS):TS:=λD σ H=>wi σ H λJ H1=>∃ W:Nat->Nat->St->Hp->Prop,(∃ m,W 0 m σ H1)/\∀ i m σ H,W i m σ H ->
 (J.stop i H/\D.nx σ H)\/(J.go i H/\∃ N:St->Hp->Prop,(∀ σ' H',N σ' H'->∃ m',m' < m/\W (i+1) m' σ' H')/\∀ x H',J.yld i H x H'->g x σ H' λσ2 H2=>tb { D with nx:=N,ct:=N,bk:=D.nx } σ2 H2)
def Uc(fp:List Addr)(h:Heap):List (Addr×Obj):=fp.filterMap λb=>(h.get? b).map λo=>(b,o)
theorem UP{o:Obj}(hb:b∈fp)(e:h.get? b=some o):(b,o)∈Uc fp h:=List.mem_filterMap.mpr ⟨b,hb,by rw[e];rfl⟩
theorem LL{p:Addr×Obj}(a:p∈Uc fp h):p.1∈fp/\h.get? p.1=some p.2:=by
 obtain⟨b,c,e⟩:=List.mem_filterMap.mp a
 cases q:h.get? b with
 | none=>rw[q] at e;cases e
 | some o =>
  rw[q] at e
  have f:(b,o)=p:=Option.some.inj e
  subst f
  exact⟨c,q⟩
theorem Inv.pinned(I:Inv X pins σ H s)(h:∀ b∈fp,Yy X pins H b)(g:∀ b∈fp,∃ o,s.heap.get? b=some o/\∀ v,o.data≠.cell v):Inv X (pins++Uc fp s.heap) σ H s :=
 I.pins_of λp f=>(mem_append.mp f).elim (λz=>I.pin p (mem_append_right _ z)) λz=>by
  obtain⟨a,e⟩:=LL z
  obtain⟨m,j,i,_⟩:=h p.1 a
  obtain⟨o,c,d⟩:=g p.1 a
  rw[e] at c;cases c
  exact⟨e,m,j,i,d⟩
theorem Inv.unpinned{pl:List (Addr×Obj)}(I:Inv X (pins++pl) σ H s):Inv X pins σ H s:=I.pins_of λp a=>I.pin p (mem_append_right _ (mem_append_left _ a))
theorem YY(E:PassesOwn (model X.prog X.w) X.A X.env X.xe)(Q:X.calm=true)(hi:PI X tg iter wi)(hg:PG X tg g)(hb:PSs X body tb)
  (hs:∀ x,foldedSetIterable iter X.env x=pure x:=by intro _;rfl):PS X (.For tg iter body [] pos) (Vs wi g tb):=by
 intro c s M H D I h
 refine wpAny_For (thn (hi c s M H _ I h) λv s1 h1=>thn h1 λitv s2 h2=>?_) hs
 obtain⟨it,F,O,J,H2,e,I2,T,G,R,W,⟨m0,Y⟩,turn⟩:=h2
 subst e
 have p:∀ {y:Hp},(∀ b∈F,y b=none)->∀ b∈F,Yy X c y b:=λhn b hb=>⟨hn b hb,(R b hb).2⟩
 refine codeAny_forLoop_any (λn P=>∃ i j y,Inv X c j y P/\O i P.heap/\(∀ b∈F,y b=none)/\W i n j y) ?_ m0 ⟨0,M,H2,I2,G,λb hb=>(R b hb).1,Y⟩
 rintro n s3 ⟨i,σ3,H3,I3,st3,fr3,w3⟩
 rcases turn i n σ3 H3 w3 with⟨B,qn⟩|⟨go,N,hN,step⟩
 ·refine wpAny_passesOwn E (thn (T.done X rfl rfl rfl Q i c s3 σ3 H3 X.xe I3 (p fr3) st3 B) λr s4 ⟨hr,I4⟩=>?_)
  subst hr
  exact wpAny_execs_nil ⟨σ3,H3,I4,qn⟩
 ·refine wpAny_passesOwn E (thn (T.item X rfl rfl rfl Q i c s3 σ3 H3 X.xe I3 (p fr3) st3 go) λr s4 ⟨u,hr,h4⟩=>?_)
  subst hr
  refine wpAny_passesOwn E (thn h4 λ_ s5 ⟨x,H5,I5,r5,y5,st5,fr5⟩=>?_)
  have L:=I5.pinned (p fr5) (T.obj _ _ st5)
  refine wpAny_passesOwn E (thn (hg _ s5 σ3 H5 x u _ L r5 (step x H5 y5)) λ_ s6 ⟨σ6,H6,I6,q6⟩=>?_)
  refine wpAny_passesOwn E (thn (hb _ s6 σ6 H6 _ I6 q6) λf K A=>?_)
  have again:∀ {a:St} {w:Hp},Inv X (c++Uc F s5.heap) a w K->N a w->∃ m,m<n/\∃ i j y,Inv X c j y K/\O i K.heap/\(∀ b∈F,y b=none)/\W i m j y:=λ{a w} q C=>by
   obtain⟨m',hm,U⟩:=hN a w C
   refine⟨m',hm,i+1,a,w,q.unpinned,T.keep _ _ _ st5 λb hb o e=>(q.pin (b,o) (mem_append_right _ (mem_append_right _ (UP hb e)))).1,λb hb=>?_,U⟩
   obtain⟨o,e,d⟩:=T.obj _ _ st5 b hb
   exact (q.pin (b,o) (mem_append_right _ (mem_append_right _ (UP hb e)))).2.1
  cases f with
  | next=>obtain⟨a,w,q,C⟩:=A;exact again q C
  | cont=>obtain⟨a,w,q,C⟩:=A;exact again q C
  | brk=>obtain⟨a,w,q,A⟩:=A;exact⟨a,w,q.unpinned,A⟩
  | ret v=>obtain⟨S,a,w,q,Z,A⟩:=A;exact⟨S,a,w,q.unpinned,Z,A⟩
abbrev R2:=V->V->Hp->VK->Prop
def OpR(X:Cx)(f:Value->Value->Sem Value)(r:R2):Prop :=
 ∀ (pins:List (Addr×Obj)) (s:Shared) (σ:St) (H:Hp) (x y:V) (v u:Value) (Q:VK),Inv X pins σ H s->Zo x v->Zo y u->r x y H Q ->
  wpAny (model X.prog X.w) X.A (f v u) (EP X pins σ Q) X.xe s
def UnR(X:Cx)(f:Value->Sem Value)(r:V->Hp->VK->Prop):Prop :=
 ∀ (pins:List (Addr×Obj)) (s:Shared) (σ:St) (H:Hp) (x:V) (v:Value) (Q:VK),Inv X pins σ H s->Zo x v->r x H Q ->
  wpAny (model X.prog X.w) X.A (f v) (EP X pins σ Q) X.xe s
def Z1(X:Cx)(f:Value)(r:List V->Hp->VK->Prop):Prop :=
 ∀ (pins:List (Addr×Obj)) (s:Shared) (σ:St) (H:Hp) (xs:List V) (us:List Value) (Q:VK),Inv X pins σ H s->Zm xs us->r xs H Q ->
  wpAny (model X.prog X.w) X.A (call f us) (EP X pins σ Q) X.xe s
def tOp(r:R2)(ta tb:TE):TE:=λσ H Q=>ta σ H λx H1=>tb σ H1 λy H2=>r x y H2 Q
def tUn(r:V->Hp->VK->Prop)(ta:TE):TE:=λσ H Q=>ta σ H λx H1=>r x H1 Q
def rI(C:Int->Int->Prop)(g:Int->Int->V):R2:=λx y H Q=>∃ i j,x=.int i/\y=.int j/\C i j/\Q (g i j) H
def rI0(g:Int->Int->V):R2:=λx y H Q=>∃ i j,x=.int i/\y=.int j/\Q (g i j) H
def rU(g:Int->V):V->Hp->VK->Prop:=λx H Q=>∃ i,x=.int i/\Q (g i) H
variable{r:R2}
section
variable{a b:Expr}{ta tb:TE}
theorem SE(e:PE X a ta)(hb:PE X b tb){R:V->V->Hp->Prop}(I:Inv X pins σ H s)
  (h:ta σ H λx H1=>tb σ H1 λy H2=>R x y H2)  {f:Value->Value->Sem Value}
  (c:∀ v u s2 x y H2,Inv X pins σ H2 s2->Zo x v->Zo y u->R x y H2->wpAny (model X.prog X.w) X.A (f v u) Q X.xe s2) :
  wpAny (model X.prog X.w) X.A (eval a X.env) (λv s₁=>wpAny (model X.prog X.w) X.A (eval b X.env) (λu s₂=>wpAny (model X.prog X.w) X.A (f v u) Q X.xe s₂) X.xe s₁) X.xe s:=by
 refine thn (e pins s σ H _ I h) λv s1 ⟨x,H1,I1,r1,q1⟩=>?_
 refine thn (hb pins s1 σ H1 _ I1 q1) λu s2 ⟨y,H2,I2,r2,q2⟩=>?_
 exact c v u s2 x y H2 I2 r1 r2 q2
theorem Zl{op:Operator}(j:OpR X (binaryOp op) r)(m:PE X a ta)(hb:PE X b tb):PE X (.BinOp a op b pos) (tOp r ta tb):=by
 intro c s e H Q I h
 exact wpAny_BinOp (SE m hb I h λv u f x y p n i g q=>j c f e p x y v u Q n i g q)
theorem LM{op:UnaryOp}{r:V->Hp->VK->Prop}(e:UnR X (unaryOp op) r)(f:PE X a ta):PE X (.UnaryOp op a pos) (tUn r ta):=by
 intro b s c H Q I h
 exact UnaryOp_ (thn (f b s c H _ I h) λv s1 ⟨x,H1,I1,r1,q1⟩=>e b s1 c H1 x v Q I1 r1 q1)
theorem opI{f:Value->Value->Sem Value}{C:Int->Int->Prop}{g:Int->Int->Int}
  (a:∀ (i j:Int) (t u:Tok) (s:Shared) (Q:Value->Shared->Prop) (E:Value->Shared->Prop),C i j->Q (.int (g i j) s.toks) { s with toks:=s.toks+1 }->wpAny (model X.prog X.w) X.A (f (.int i t) (.int j u)) Q E s) :
  OpR X f (rI C λi j=>.int (g i j)):=by
 intro b s n H x y v u Q I e c h
 obtain⟨i,j,rfl,rfl,m,q⟩:=h
 obtain⟨t,rfl⟩:=e
 obtain⟨t',rfl⟩:=c
 exact a i j t t' s _ _ m ⟨.int (g i j),H,I.tok _,⟨_,rfl⟩,q⟩
theorem opI0{f:Value->Value->Sem Value}{g:Int->Int->Int}
  (a:∀ (i j:Int) (t u:Tok) (s:Shared) (Q:Value->Shared->Prop) (E:Value->Shared->Prop),Q (.int (g i j) s.toks) { s with toks:=s.toks+1 }->wpAny (model X.prog X.w) X.A (f (.int i t) (.int j u)) Q E s) :
  OpR X f (rI0 λi j=>.int (g i j)):=by
 intro b s m H x y v u Q I e c h
 obtain⟨i,j,rfl,rfl,q⟩:=h
 obtain⟨t,rfl⟩:=e
 obtain⟨t',rfl⟩:=c
 exact a i j t t' s _ _ ⟨.int (g i j),H,I.tok _,⟨_,rfl⟩,q⟩
theorem opB0{f:Value->Value->Sem Value}{g:Int->Int->Bool}
  (a:∀ (i j:Int) (t u:Tok) (s:Shared) (Q:Value->Shared->Prop) (E:Value->Shared->Prop),Q (.bool (g i j)) s->wpAny (model X.prog X.w) X.A (f (.int i t) (.int j u)) Q E s) :
  OpR X f (rI0 λi j=>.bl (g i j)):=by
 intro b s m H x y v u Q I e c h
 obtain⟨i,j,rfl,rfl,q⟩:=h
 obtain⟨t,rfl⟩:=e
 obtain⟨t',rfl⟩:=c
 exact a i j t t' s _ _ ⟨.bl (g i j),H,I,rfl,q⟩
def CDiv(i j:Int):Prop:=0<j/\j<1073741824
def Ud(i j:Int):Prop:=(-(2 ^ 64)<i/\i<2 ^ 64)\/(-(2 ^ 64)<j/\j<2 ^ 64)
theorem Ud.ok{i j:Int}(h:Ud i j):IntMulOk i j:=by
 rcases h with⟨b,a⟩|⟨b,a⟩
 ·exact .of_left (intBits_le_64 b a)
 ·exact .of_right (intBits_le_64 b a)
theorem LN:OpR X (binaryOp .Add) (rI0 λi j=>.int (i+j)):=opI0 λ_ _ _ _ _ _ _ q=>add_int q
theorem Ue:OpR X (binaryOp .Sub) (rI0 λi j=>.int (i-j)):=opI0 λ_ _ _ _ _ _ _ q=>sub_int q
theorem LO:OpR X (binaryOp .Mult) (rI Ud λi j=>.int (i*j)):=opI λ_ _ _ _ _ _ _ a q=>mul_int q a.ok
theorem Z7:OpR X (binaryOp .FloorDiv) (rI CDiv λi j=>.int (i / j)):=opI λi j _ _ _ _ _ a q=>by
 have c:(0:Int)<j:=a.1
 have b:j<1073741824:=a.2
 exact floordiv_int (by omega) (by rw[Int.fdiv_eq_ediv_of_nonneg i (by omega)];exact q) (.inl (PyProof.noPylong_small (by omega)))
theorem ZM:OpR X (binaryOp .Mod) (rI (λ_ j=>0<j) λi j=>.int (i%j)):=opI λi j _ _ _ _ _ a q=>by
 have b:(0:Int)<j:=a
 exact mod_int' (by omega) (by rw[Int.fmod_eq_emod_of_nonneg i (by omega)];exact q)
theorem unI{f:Value->Sem Value}{g:Int->Int}
  (a:∀ (i:Int) (t:Tok) (s:Shared) (Q:Value->Shared->Prop) (E:Value->Shared->Prop),Q (.int (g i) s.toks) { s with toks:=s.toks+1 }->wpAny (model X.prog X.w) X.A (f (.int i t)) Q E s) :
  UnR X f (rU λi=>.int (g i)):=by
 intro b s e H x v Q I c h
 obtain⟨i,rfl,q⟩:=h
 obtain⟨t,rfl⟩:=c
 exact a i t s _ _ ⟨.int (g i),H,I.tok _,⟨_,rfl⟩,q⟩
theorem LP:UnR X (unaryOp .USub) (rU λi=>.int (-i)):=unI λ_ _ _ _ _ q=>neg_int q
end
def scal:V->V->Bool
 | .non,.non=>true|.non,.int _=>true|.int _,.non=>true|.non,.bl _=>true|.bl _,.non=>true|.non,.str _=>true|.str _,.non=>true
 | .int _,.int _=>true|.bl _,.bl _=>true|.str _,.str _=>true|.byt _,.byt _=>true
 | .int _,.str _=>true|.str _,.int _=>true|.bl _,.str _=>true|.str _,.bl _=>true
 | _,_=>false
def rEq:R2:=λx y H Q=>scal x y=true/\Q (.bl (decide (x=y))) H
def rNe:R2:=λx y H Q=>scal x y=true/\Q (.bl (!decide (x=y))) H
theorem Pb{i j:Int}:decide (V.int i=V.int j)=(i == j):=by
 rw[Bool.eq_iff_iff]
 simp
theorem Pc{i j:Bool}:decide (V.bl i=V.bl j)=(i == j):=by
 rw[Bool.eq_iff_iff]
 simp
theorem Pd{i j:Str}:decide (V.str i=V.str j)=(i == j):=by
 rw[Bool.eq_iff_iff]
 simp
theorem Pe{i j:Array UInt8}:decide (V.byt i=V.byt j)=(i.toList == j.toList):=by
 rw[Bool.eq_iff_iff]
 cases i
 cases j
 simp
variable{r':R2}{op:CmpOp}{us:List Value}
section
variable{a b:Expr}{ta tb:TE}
theorem ZK{Q:VK}{k a:Bool}(I:Inv X pins σ H s)(q:Q (.bl k) H)(e:k=a):EP X pins σ Q (.bool a) s:=by
 subst e
 exact⟨.bl k,H,I,rfl,q⟩
theorem LQ:OpR X (compareOp .Eq) rEq:=by
 intro e s f H x y v u Q I c a h
 obtain⟨b,q⟩:=h
 cases x with
 | non =>
  cases c
  cases y with
  | non=>cases a;exact PySem.EqNone.eq_none_none (ZK I q (by simp))
  | bl j=>cases a;exact PySem.EqNone.eq_none_bool (ZK I q (by simp))
  | int j=>obtain⟨t',rfl⟩:=a;exact PySem.EqNone.eq_none_int (ZK I q (by simp))
  | str j=>obtain⟨t',rfl⟩:=a;exact PySem.EqNone.eq_none_str (ZK I q (by simp))
  | _=>exact absurd (show false=true from b) Bool.false_ne_true
 | bl i =>
  cases c
  cases y with
  | non=>cases a;exact PySem.EqNone.eq_bool_none (ZK I q (by simp))
  | bl j=>cases a;exact eq_bool (ZK I q Pc)
  | str j=>obtain⟨t',rfl⟩:=a;exact PySem.EqMixed.eq_bool_str (ZK I q (by simp))
  | _=>exact absurd (show false=true from b) Bool.false_ne_true
 | int i =>
  obtain⟨t,rfl⟩:=c
  cases y with
  | non=>cases a;exact PySem.EqNone.eq_int_none (ZK I q (by simp))
  | int j=>obtain⟨t',rfl⟩:=a;exact eq_int (ZK I q Pb)
  | str j=>obtain⟨t',rfl⟩:=a;exact PySem.EqMixed.eq_int_str (ZK I q (by simp))
  | _=>exact absurd (show false=true from b) Bool.false_ne_true
 | str i =>
  obtain⟨t,rfl⟩:=c
  cases y with
  | non=>cases a;exact PySem.EqNone.eq_str_none (ZK I q (by simp))
  | bl j=>cases a;exact PySem.EqMixed.eq_str_bool (ZK I q (by simp))
  | int j=>obtain⟨t',rfl⟩:=a;exact PySem.EqMixed.eq_str_int (ZK I q (by simp))
  | str j=>obtain⟨t',rfl⟩:=a;exact eq_str (ZK I q Pd)
  | _=>exact absurd (show false=true from b) Bool.false_ne_true
 | byt i =>
  obtain⟨t,rfl⟩:=c
  cases y with
  | byt j=>obtain⟨t',rfl⟩:=a;exact PySem.W.eq_bytes (ZK I q Pe)
  | _=>exact absurd (show false=true from b) Bool.false_ne_true
 | _=>cases y<;>exact absurd (show false=true from b) Bool.false_ne_true
theorem LR:OpR X (compareOp .NotEq) rNe:=by
 intro e s f H x y v u Q I c a h
 obtain⟨b,q⟩:=h
 cases x with
 | non =>
  cases c
  cases y with
  | non=>cases a;exact PySem.EqNone.ne_none_none (ZK I q (by simp))
  | bl j=>cases a;exact PySem.EqNone.ne_none_bool (ZK I q (by simp))
  | int j=>obtain⟨t',rfl⟩:=a;exact PySem.EqNone.ne_none_int (ZK I q (by simp))
  | str j=>obtain⟨t',rfl⟩:=a;exact PySem.EqNone.ne_none_str (ZK I q (by simp))
  | _=>exact absurd (show false=true from b) Bool.false_ne_true
 | bl i =>
  cases c
  cases y with
  | non=>cases a;exact PySem.EqNone.ne_bool_none (ZK I q (by simp))
  | bl j=>cases a;exact ne_bool (ZK I q (congrArg not Pc))
  | str j=>obtain⟨t',rfl⟩:=a;exact PySem.EqMixed.ne_bool_str (ZK I q (by simp))
  | _=>exact absurd (show false=true from b) Bool.false_ne_true
 | int i =>
  obtain⟨t,rfl⟩:=c
  cases y with
  | non=>cases a;exact PySem.EqNone.ne_int_none (ZK I q (by simp))
  | int j=>obtain⟨t',rfl⟩:=a;exact ne_int (ZK I q (congrArg not Pb))
  | str j=>obtain⟨t',rfl⟩:=a;exact PySem.EqMixed.ne_int_str (ZK I q (by simp))
  | _=>exact absurd (show false=true from b) Bool.false_ne_true
 | str i =>
  obtain⟨t,rfl⟩:=c
  cases y with
  | non=>cases a;exact PySem.EqNone.ne_str_none (ZK I q (by simp))
  | bl j=>cases a;exact PySem.EqMixed.ne_str_bool (ZK I q (by simp))
  | int j=>obtain⟨t',rfl⟩:=a;exact PySem.EqMixed.ne_str_int (ZK I q (by simp))
  | str j=>obtain⟨t',rfl⟩:=a;exact ne_str (ZK I q (congrArg not Pd))
  | _=>exact absurd (show false=true from b) Bool.false_ne_true
 | byt i =>
  obtain⟨t,rfl⟩:=c
  cases y with
  | byt j=>obtain⟨t',rfl⟩:=a;exact PySem.W.ne_bytes (ZK I q (congrArg not Pe))
  | _=>exact absurd (show false=true from b) Bool.false_ne_true
 | _=>cases y<;>exact absurd (show false=true from b) Bool.false_ne_true
theorem Vt:OpR X (compareOp .Lt) (rI0 λi j=>.bl (decide (i<j))):=opB0 λ_ _ _ _ _ _ _ q=>lt_int q
theorem XN:OpR X (compareOp .Gt) (rI0 λi j=>.bl (decide (j<i))):=opB0 λ_ _ _ _ _ _ _ q=>gt_int q
theorem LS:OpR X (compareOp .Is) (λx y H Q=>y=.non/\Q (.bl (decide (x=.non))) H):=by
 intro b s e H x y v u Q I a c h
 obtain⟨rfl,q⟩:=h
 cases c
 refine is_none_gen (ZK I q ?_)
 cases x<;>first
  | (cases a;rfl)
  | (obtain⟨t,rfl⟩:=a;rfl)
theorem OpR.or{f:Value->Value->Sem Value}(h:OpR X f r)(h':OpR X f r'):OpR X f (λx y H Q=>r x y H Q\/r' x y H Q):=by
 intro a s b H x y v u Q I e c q
 rcases q with q|q
 ·exact h a s b H x y v u Q I e c q
 ·exact h' a s b H x y v u Q I e c q
theorem nomark(b:Expr)(h:op≠.In:=by decide)(h2:op≠.NotIn:=by decide):behindInMarks op b=false:=by
 have c:(op == CmpOp.In)=false:=by cases op<;>first|rfl|exact absurd rfl h
 have a:(op == CmpOp.NotIn)=false:=by cases op<;>first|rfl|exact absurd rfl h2
 cases b<;>simp[behindInMarks,c,a]
theorem Vu(j:OpR X (compareOp op) r)(n:PE X a ta)(hb:PE X b tb)(m:behindInMarks op b=false):PE X (.Compare a [op] [b] pos) (tOp r ta tb):=by
 intro c s e H Q I h
 exact wpAny_Compare1 (SE n hb I h λv u f x y w p i g q=>j c f e w x y v u Q p i g q) m
def Pf(t:TE):TT:=λσ H Q=>t σ H λx H'=>∃ k,x=.bl k/\Q k H'
theorem Zw(i:OpR X (compareOp op) r)(m:PE X a ta)(hb:PE X b tb)(j:behindInMarks op b=false):PT X (.Compare a [op] [b] pos) (Pf (tOp r ta tb)):=by
 intro f s g H Q I h
 refine wpAny_isTrue_Compare1 (thn (m f s g H _ I h) λv s1 ⟨x,H1,I1,r1,q1⟩=>thn (hb f s1 g H1 _ I1 q1) λu s2 ⟨y,H2,I2,r2,q2⟩ =>
  thn (i f s2 g H2 x y v u _ I2 r1 r2 q2) λc s3 ⟨z,H3,I3,r3,k,e,q3⟩=>?_) j
 subst e
 cases r3
 exact wpAny_truthy_bool ⟨H3,I3,q3⟩
theorem line63:(sizeLine:Nat)<2 ^ 63:=by rw[sizeLine_eq];decide
theorem LT:OpR X (binaryOp .Add) (λx y H Q=>∃ i j,x=.str i/\y=.str j/\i.length+j.length<=sizeLine/\Q (.str (i++j)) H):=by
 intro a s e H x y v u Q I c b h
 obtain⟨i,j,rfl,rfl,hz,q⟩:=h
 obtain⟨t,rfl⟩:=c
 obtain⟨t',rfl⟩:=b
 exact add_str (λt' f=>⟨.str (i++j),H,I.tok _,⟨_,rfl⟩,q⟩) hz
theorem vals1{x:V}(r:Zm [x] us):∃ u,us=[u]/\Zo x u:=by
 cases r with
 | cons b a=>cases a;exact⟨_,rfl,b⟩
theorem vals2{x y:V}(r:Zm [x,y] us):∃ u a,us=[u,a]/\Zo x u/\Zo y a:=by
 cases r with
 | cons f e =>
  cases e with
  | cons c b=>cases b;exact⟨_,_,rfl,f,c⟩
theorem Pg(c:X.calm=true):Z1 X (.builtin "max") (λxs H Q=>∃ i j,xs=[.int i,.int j]/\Q (.int (if j > i then j else i)) H):=by
 intro b s e H xs us Q I r h
 obtain⟨i,j,rfl,q⟩:=h
 obtain⟨u,f,rfl,⟨t,rfl⟩,⟨t',rfl⟩⟩:=vals2 r
 refine max_two_ints (I.ok.hd c) λh' g k=>⟨_,H,I.kept k,?_,q⟩
 by_cases a:j > i
 ·rw[if_pos a,if_pos a];exact⟨_,rfl⟩
 ·rw[if_neg a,if_neg a];exact⟨_,rfl⟩
theorem Ph(c:X.calm=true):Z1 X (.builtin "min") (λxs H Q=>∃ i j,xs=[.int i,.int j]/\Q (.int (if j<i then j else i)) H):=by
 intro b s e H xs us Q I r h
 obtain⟨i,j,rfl,q⟩:=h
 obtain⟨u,f,rfl,⟨t,rfl⟩,⟨t',rfl⟩⟩:=vals2 r
 refine min_two_ints (I.ok.hd c) λh' g k=>⟨_,H,I.kept k,?_,q⟩
 by_cases a:j<i
 ·rw[if_pos a,if_pos a];exact⟨_,rfl⟩
 ·rw[if_neg a,if_neg a];exact⟨_,rfl⟩
end
theorem YJ.some_of{o:Option Value}(r:YJ (some v) o):∃ u,o=some u/\Zo v u:=by
 cases o with
 | none=>exact (show False from r).elim
 | some u=>exact⟨u,rfl,r⟩
structure Room(k:Nat)(A:Around):Prop where
 hd:A.handled=none
 dp:A.depth+3*k+5<recursionLimit
 un:A.units+16*k+200<cLine
theorem Room.mono{k:Nat}(r:Room k A)(h:j<=k):Room j A:=⟨r.hd,by have:=r.dp;omega,by have:=r.un;omega⟩
theorem Room.deeper{k:Nat}{A:Around}(r:Room (k+1) A)(env:Env):Room k (A.deeper env) :=
 ⟨r.hd,by have:=r.dp;show A.depth+1+3*k+5<_;omega,by have:=r.un;show A.units+3+16*k+200<_;omega⟩
theorem Room.depth{k:Nat}{A:Around}(r:Room k A):A.depth<recursionLimit:=by have:=r.dp;omega
theorem Room.units{k:Nat}{A:Around}(r:Room k A):A.units+64<cLine:=by have:=r.un;omega
def YL:TA:=λ_ H Q=>Q [] H
def YZ(ta:TE)(tr:TA):TA:=λσ H Q=>ta σ H λx H1=>tr σ H1 λxs H2=>Q (x::xs) H2
section
variable{t:TA}
theorem Zb:PA X [] YL:=λ_ _ _ _ H Q I h=>Calls.spliced_nil ⟨[],H,I,.nil,h⟩
theorem Za(g:PE X e te)(f:PA X es t)(c:starEach (e::es) X.env=(false,eval e X.env)::starEach es X.env:=by rfl):PA X (e::es) (YZ te t):=by
 intro pos a s b H Q I h
 rw[c]
 show wpAny _ _ (spliced ((false,eval e X.env)::backTo pos (starEach es X.env))) _ _ s
 refine Calls.spliced_cons (thn (g a s b H _ I h) λu s1 ⟨x,H1,I1,r1,q1⟩=>?_)
 exact thn (f pos a s1 b H1 _ I1 q1) λus s2 ⟨xs,H2,I2,r2,q2⟩=>⟨x::xs,H2,I2,.cons r1 r2,q2⟩
def SF(t:TA):TE:=λσ H Q=>t σ H λxs H1=>xs.length<=sizeLine/\∀ p,H1 p=none->Q (.ref p) (upd H1 p (.tup xs))
def SG(t:TA):TE:=λσ H Q=>t σ H λxs H1=>xs.length<=sizeLine/\∀ p,H1 p=none->Q (.ref p) (upd H1 p (.lst xs))
theorem Yd{x1}(h:PA X es t):PE X (.Tuple es x1 pos) (SF t):=by
 intro a s c H Q I f
 refine wpAny_Tuple_spliced (thn (h pos a s c H _ I f) λus s1 ⟨xs,H1,I1,r,z,q⟩=>⟨by rw[<- r.length];exact z,?_⟩)
 have g:H1 s1.heap.objs.size=none:=I1.hok.fresh (Nat.le_refl _)
 refine⟨.ref s1.heap.objs.size,upd H1 s1.heap.objs.size (.tup xs),I1.laid (t':=s1.toks) (λb u e=>Heap.get?_push_of_some _ e) (Nat.le_refl _) ?_,rfl,q _ g⟩
 exact⟨z,us,r,⟨_,Heap.get?_push_size _ rfl,rfl,⟨_,rfl⟩,rfl⟩⟩
theorem ZZ(h:PA X es t):PE X (.List es pos) (SG t):=by
 intro a s c H Q I f
 refine wpAny_List_spliced (thn (h pos a s c H _ I f) λus s1 ⟨xs,H1,I1,r,z,q⟩=>⟨by rw[<- r.length];exact z,?_⟩)
 have g:H1 s1.heap.objs.size=none:=I1.hok.fresh (Nat.le_refl _)
 refine⟨.ref s1.heap.objs.size,upd H1 s1.heap.objs.size (.lst xs),I1.laid (t':=s1.toks) (λb u e=>Heap.get?_push_of_some _ e) (Nat.le_refl _) ?_,rfl,q _ g⟩
 exact⟨z,us,0,r,Heap.get?_push_size _ rfl⟩
end
abbrev Sp:=List V->Hp->VK->XK->Prop
abbrev CXT:=List Env->Hp->Shared->XK->Value->Shared->Prop
structure Env0(P:Program)(w:World)(K:W.Frag)(mg:Str->Option Value)(base:Heap)(A:Around)(outer:List Env)(s:Shared)(H:Hp):Prop where
 frames:A.frames=some outer
 mod:Mod K mg base
 bs:∀ b o,base.get? b=some o->s.heap.get? b=some o/\H b=none
 bsz:base.objs.size<=s.heap.objs.size
 funs:s.heap.FunFrames base outer
 frf:∀ b∈frs outer,H b=none
 hok:HOk P w H s.heap
 bare:AllBare s.gens
def CE(outer:List Env)(P:Program)(w:World)(H:Hp)(s:Shared)(Q:VK)(u:Value)(s':Shared):Prop :=
 ∃ v H',s'.os=s.os/\AllBare s'.gens/\Un (frs outer) [] H H' s.heap s'.heap/\HOk P w H' s'.heap/\Zo v u/\Q v H'
def CR(CX:CXT)(outer:List Env)(P:Program)(w:World)(H:Hp)(s:Shared)(Q:VK)(E:XK)(r:Result)(s':Shared):Prop :=
 match r with
 | .ok (.ret u)=>CE outer P w H s Q u s'
 | .ok _=>False
 | .error e=>CX outer H s E e s'
structure FnOk(P:Program)(w:World)(K:W.Frag)(mg:Str->Option Value)(base:Heap)(CX:CXT)(k:Nat)(f:Addr)(fd:FuncData)(ps:List Str)(sp:Sp):Prop where
 len:∀ vs H Q E,sp vs H Q E->vs.length=ps.length
 run:∀ (A:Around) (outer:List Env) (s:Shared) (H:Hp) (args:Args) (us:List Value) (vs:List V) (Q:VK) (E:XK),Room k A->Env0 P w K mg base A outer s H->BindsTo s fd args (ps.zip us)->Zm vs us->sp vs H Q E ->
  codeAny (model P w) A (.call (.ref f) args) (CR CX outer P w H s Q E) s
theorem FnOk.mono{P:Program}{w:World}{K:W.Frag}{mg:Str->Option Value}{base:Heap}{CX:CXT}{j k:Nat}{f:Addr}{fd:FuncData}{ps:List Str}{sp:Sp}(F:FnOk P w K mg base CX j f fd ps sp)(h:j<=k) :
  FnOk P w K mg base CX k f fd ps sp:=⟨F.len,λA a s H args us vs Q E b=>F.run A a s H args us vs Q E (b.mono h)⟩
theorem Inv.env0(I:Inv X pins σ H s):Env0 X.prog X.w X.K X.mg X.base X.A X.stack s H :=
 ⟨I.ok.frames,I.ok.mod,I.bs,Nat.le_trans I.ok.bsz I.sz,I.stack,I.stkFree,I.hok,I.bare⟩
theorem Inv.after{Q:VK}(I:Inv X pins σ H s)(h:CE X.stack X.prog X.w H s Q u s'):EP X pins σ Q u s':=by
 obtain⟨v,j,f,a,un,e,r,q⟩:=h
 obtain⟨i,g,d,t,c⟩:=s'
 obtain rfl:c=s.os:=f
 exact⟨v,j,I.call (h':=i) (g':=g) (d':=d) (t':=t) (ch:=[]) un e a (λb z=>absurd z (by simp)),r,q⟩
def WT(sp:Sp)(dvs:List V)(E:XK)(t:TA):TE:=λσ H Q=>t σ H λvs H1=>sp (vs++dvs) H1 Q E
def Wd(K:W.Frag)(fd:FuncData)(ps:List Str)(ds:List Value):Prop :=
 ∀ (s:Shared) (us:List Value),K.In s.heap->(us++ds).length=ps.length->BindsTo s fd ⟨us,[]⟩ (ps.zip (us++ds))
variable{fd:FuncData}{ps:List Str}
theorem Wd.all(h:∀ us:List Value,us.length=ps.length->bindArgs fd ⟨us,[]⟩=pure (ps.zip us)):Wd K fd ps []:=λs us _ a=>by
 rw[append_nil] at a ⊢
 exact .of_eq (h us a)
def WU(CX:CXT)(X:Cx)(E:XK):Prop:=∀ (pins:List (Addr×Obj)) (σ:St) (H:Hp) (s:Shared) (e:Value) (s':Shared),Inv X pins σ H s->CX X.stack H s E e s'->X.xe e s'
variable{CX:CXT}{sp:Sp}{dvs vs:List V}
section
variable{k:Nat}{f:Addr}{ds:List Value}{E:XK}{p:Pos}{t:TA}
theorem LU{Q:VK}(F:FnOk X.prog X.w X.K X.mg X.base CX k f fd ps sp)(i:Room k X.A)(hb:Wd X.K fd ps ds)(hd:Zm dvs ds)(g:WU CX X E)
  (I:Inv X pins σ H s) (r:Zm vs us) (h:sp (vs++dvs) H Q E):wpAny (model X.prog X.w) X.A (call (.ref f) us) (EP X pins σ Q) X.xe s:=by
 have b:Zm (vs++dvs) (us++ds):=r.append hd
 have j:(us++ds).length=ps.length:=by rw[<- b.length];exact F.len _ _ _ _ h
 refine wpAny_call (codeAny_mono (F.run X.A X.stack s H ⟨us,[]⟩ (us++ds) (vs++dvs) Q E i I.env0 (hb s us I.kIn j) b h) λr c a=>?_)
 cases r with
 | error e=>exact g pins σ H s e c I a
 | ok m =>
  cases m with
  | ret u=>exact I.after a
  | next=>exact False.elim a
  | brk=>exact False.elim a
  | cont=>exact False.elim a
theorem LV(F:FnOk X.prog X.w X.K X.mg X.base CX k f fd ps sp)(j:Room k X.A)(u:Gl X x)(m:X.mg x=some (.ref f))(n:PySem.W.keepIn X.K (.ref f)=true)(hb:Wd X.K fd ps ds)(hd:Zm dvs ds)(i:WU CX X E)
  (w:PA X (e::es) t) (c:(x == ("__debug__" : Str))=false:=by decide) (v:starEach (e::es) X.env=(false,eval e X.env)::starEach es X.env:=by rfl) (b:(backTo pos (starEach es X.env)).any (·.1)=false:=by rfl) :
  PE X (.Call (.Name x p) (e::es) [] pos) (WT sp dvs E t):=by
 intro a s g H Q I h
 refine wpAny_Call_Name_kw (Su I u m ?_ c)
 refine PySem.W.callWith_K (h₀:=X.base) I.ok.mod.kin n (thn (w pos a s g H _ I h) λus s1 ⟨vs,H1,I1,r,q⟩=>⟨I1.kIn,?_⟩) v b
 exact LU F j hb hd i I1 r q
end
structure FnScope(N P:List Str)(sc:Scope):Prop where
 kind:sc.kind=.function
 co:sc.isCoroutine=false
 gen:sc.isGenerator=false
 nd:N.Nodup
 pre:N.take P.length=P
 par:∀ x∈P,sc.names.lookup x=some .local\/sc.names.lookup x=some .cell
 nofree:∀ y∈sc.names,y.2≠.free
theorem Pi{b:Str->Option NameKind}{x:Str}:∀ {a:List (Str×Value)} {m:Str->Option Value},(∀ v,(x,v)∉a)->bindL b a m x=m x
 | [],_,_=>rfl
 | (n,v)::r,m,h=>by
  unfold bindL
  rw[Pi λw c=>h w (mem_cons_of_mem _ c)]
  split
  ·have:x≠n:=by rintro rfl;exact h v mem_cons_self
   simp[this]
  ·rfl
theorem Pj{b:Str->Option NameKind}{x:Str}:∀ {a:List (Str×Value)} {m:Str->Option Value},(∀ v,(x,v)∉a)->bindC b a m x=m x
 | [],_,_=>rfl
 | (n,v)::r,m,h=>by
  unfold bindC
  rw[Pj λw c=>h w (mem_cons_of_mem _ c)]
  split
  ·rfl
  ·have:x≠n:=by rintro rfl;exact h v mem_cons_self
   simp[this]
theorem Pk{a:Str->Option NameKind}{x:Str}{v:Value}:∀ {P:List Str} {vs:List Value} {i:Nat} {m:Str->Option Value},P.Nodup->P[i]?=some x->vs[i]?=some v->a x=some .local ->
  bindL a (P.zip vs) m x=some v
 | [],_,_,_,_,h,_,_=>by simp at h
 | _::_,[],_,_,_,_,h,_=>by simp at h
 | p::P,w::vs,0,m,nd,h1,h2,hk=>by
  simp at h1 h2;subst h1;subst h2
  show bindL a ((p,w)::P.zip vs) m p=_
  unfold bindL
  rw[Pi λv b=>(nodup_cons.mp nd).1 (List.of_mem_zip b).1,if_pos hk]
  simp
 | p::P,w::vs,i+1,m,nd,h1,h2,hk=>by
  show bindL a ((p,w)::P.zip vs) m x=_
  unfold bindL
  exact Pk (i:=i) (nodup_cons.mp nd).2 (by simpa using h1) (by simpa using h2) hk
theorem Pl{a:Str->Option NameKind}{x:Str}{v:Value}:∀ {P:List Str} {vs:List Value} {i:Nat} {m:Str->Option Value},P.Nodup->P[i]?=some x->vs[i]?=some v->a x≠some .local ->
  bindC a (P.zip vs) m x=some v
 | [],_,_,_,_,h,_,_=>by simp at h
 | _::_,[],_,_,_,_,h,_=>by simp at h
 | p::P,w::vs,0,m,nd,h1,h2,hk=>by
  simp at h1 h2;subst h1;subst h2
  show bindC a ((p,w)::P.zip vs) m p=_
  unfold bindC
  rw[Pj λv b=>(nodup_cons.mp nd).1 (List.of_mem_zip b).1,if_neg hk]
  simp
 | p::P,w::vs,i+1,m,nd,h1,h2,hk=>by
  show bindC a ((p,w)::P.zip vs) m x=_
  unfold bindC
  exact Pl (i:=i) (nodup_cons.mp nd).2 (by simpa using h1) (by simpa using h2) hk
def start(N:List Str)(vs:List V):St:=vs.map some++List.replicate (N.length-vs.length) none
def YM(CX:CXT)(P:Program)(w:World)(K:W.Frag)(mg:Str->Option Value)(base:Heap)(N:List Str)(qual:Str)(scope:Scope)(f:Addr)(cd:Value)(A:Around)(outer:List Env)(s:Shared)(H:Hp)(E:XK):Cx where
 prog:=P
 w:=w
 K:=K
 mg:=mg
 base:=base
 A:=A.deeper (envOfC qual scope s.heap.objs.size f cd)
 N:=N
 s₀:=s
 H₀:=H
 env:=envOfC qual scope s.heap.objs.size f cd
 outer:=outer
 stack:=envOfC qual scope s.heap.objs.size f cd::outer
 ex:=[]
 calm:=true
 fn:=λ_=>true
 pn:=[]
 xe:=λe s'=>wpAny (model P w) (A.deeper (envOfC qual scope s.heap.objs.size f cd)) (leaving (envOfC qual scope s.heap.objs.size f cd) e) (λ_ s''=>CX outer H s E e s'') (λe' s''=>CX outer H s E e' s'') s'
theorem Pm{sc:Scope}(h:sc.names.lookup x=some .cell):∃ c,(cellsFrom n sc.names []).lookup x=some c:=by
 have q:=PySem.W.cellsFrom_some sc.names n [] (.inl h)
 exact Option.isSome_iff_exists.mp q
variable{base:Heap}{qual:Str}{scope:Scope}{cd:Value}{outer:List Env}{mg:Str->Option Value}
theorem LW{f:Addr}{s1:Shared}{E:XK}
  (S:FnScope N ps scope) (hd:A.handled=none) (j:Env0 P w K mg base A outer s H) (hl:vs.length=ps.length) (r:Zm vs us)
  (x:InCallC s s.heap.objs.size (bindL (envOfC qual scope s.heap.objs.size f cd).kindOf (ps.zip us) λ_=>none) (cellsFrom (s.heap.objs.size+1) scope.names []) (bindC (envOfC qual scope s.heap.objs.size f cd).kindOf (ps.zip us) λ_=>none) s1) :
  Inv (YM CX P w K mg base N qual scope f cd A outer s H E) [] (start N vs) H s1:=by
 have O:ps.length<=N.length:=by have:=congrArg List.length S.pre;rw[length_take] at this;omega
 obtain⟨I,R,rfl,L⟩:=x.done
 have m:∀ b:Addr,b∉(YM CX P w K mg base N qual scope f cd A outer s H E).ex:=λb z=>absurd (show b∈([]:List Addr) from z) (by simp)
 refine⟨⟨j.mod,S.kind,rfl,rfl,Nat.le_refl _,λy z c I g=>?_,λy B=>?_,λy c _ h=>?_,λ_=>hd,Around.frames_deeper j.frames,.inr ⟨rfl,rfl⟩,λb z=>absurd z (m b),j.bs,j.bsz,λb _ _=>m b,λb z=>absurd z (m b),j.funs,j.frf⟩,
  rfl,j.bare,Un.kept L,⟨_,x.toInCall.ns,λi y v I g T=>?_⟩,λy c h=>⟨_,x.cell y c h⟩,j.hok.fresh (Nat.le_refl _),λy c h=>?_,λp F=>absurd (show p∈([]:List (Addr×Obj)) from F) (by simp),j.hok.kept L,?_⟩
 ·exact name_of_addr x.apart (PySem.mem_of_lookup I) (PySem.mem_of_lookup g)
 ·have B:scope.names.lookup y=some .cell\/scope.names.lookup y=some .free:=B
  rcases B with B|B
  ·exact Pm B
  ·exact absurd rfl (S.nofree _ (PySem.mem_of_lookup B))
 ·exact Nat.le_of_lt (x.above y c (PySem.mem_of_lookup h))
 ·have G:i<vs.length:=by
   unfold start at g
   by_cases G:i<vs.length
   ·exact G
   ·rw[List.getElem?_append_right (by simpa using G)] at g
    rw[List.getElem?_replicate] at g
    split at g<;>cases g
  have Q:vs[i]?=some v:=by
   unfold start at g
   rw[List.getElem?_append_left (by simpa using G),getElem?_map] at g
   cases e:vs[i]? with
   | none=>rw[e] at g;cases g
   | some a=>rw[e] at g;cases g;rfl
  obtain⟨u,J,M⟩:=r.get Q
  have F:ps[i]?=some y:=by
   rw[<- S.pre,List.getElem?_take_of_lt (by omega)];exact I
  have C:ps.Nodup:=by rw[<- S.pre];exact S.nd.sublist (List.take_sublist _ _)
  refine⟨u,M,?_⟩
  rcases S.par y (List.mem_of_getElem? F) with k|k
  ·exact .inl ⟨k,Pk C F J k⟩
  ·obtain⟨c,e⟩:=Pm (n:=s.heap.objs.size+1) k
   refine .inr ⟨.inl k,c,e,?_⟩
   have q:=x.cell y c e
   rw[Pl C F J (by show scope.names.lookup y≠_;rw[k];decide)] at q
   exact q
 ·exact j.hok.fresh (Nat.le_of_lt (x.above y c (PySem.mem_of_lookup h)))
 ·unfold start
  show _=N.length
  rw[List.length_append,length_map,List.length_replicate]
  omega
variable{name:Str}{params:Arguments}{dV doc pm oc:Value}{an od:Option Addr}
theorem SH{k:Nat}{f:Addr}{kV cdv ct:Value}
  {osl:Array (Option Value)}   (M:K.lookup f=some ⟨oc,od,.func (PySem.W.fnOf name qual params body scope dV kV doc pm an cdv ct),osl⟩) (F:W.codeIn K cdv qual=true) (S:FnScope N ps scope)
  (len:∀ vs H Q E,sp vs H Q E->vs.length=ps.length)
  (g:∀ (A:Around) (outer:List Env) (s:Shared) (H:Hp) (vs:List V) (Q:VK) (E:XK),Room k (A.deeper (envOfC qual scope s.heap.objs.size f cdv))->sp vs H Q E ->
   ∃ t,PSs (YM CX P w K mg base N qual scope f cdv A outer s H E) body t/\t { nx:=λ_ H'=>Q .non H',rt:=Q } (start N vs) H) :
  FnOk P w K mg base CX (k+1) f (PySem.W.fnOf name qual params body scope dV kV doc pm an cdv ct) ps sp:=by
 refine⟨len,λA outer s H args us vs Q E C j Y r i=>?_⟩
 have U:=len _ _ _ _ i
 have L:K.In s.heap:=j.mod.kin.keeps λb o e=>(j.bs b o e).1
 have B:s.heap.NoLimit:=j.mod.nolimit.keeps λb o e=>(j.bs b o e).1
 have c:∀ y∈ps.zip us,scope.names.lookup y.1=some .local\/(scope.names.lookup y.1=some .cell/\((cellsFrom (s.heap.objs.size+1) scope.names []).lookup y.1).isSome=true):=λ⟨n,v⟩ O=>by
  rcases S.par n (List.of_mem_zip O).1 with q|q
  ·exact .inl q
  ·exact .inr ⟨q,PySem.W.cellsFrom_some _ _ _ (.inl q)⟩
 refine codeAny_call_function C.depth (L _ _ M) rfl S.co S.gen rfl (PySem.W.codeRec_of L F) (Y _ _ _ _ ?_)
 refine wpAny_newFunctionEnv_cells S.kind c λenv X G x=>?_
 subst X
 refine⟨B.keeps x.toInCall.keep,codeAny_func ?_⟩
 obtain⟨t,R,T⟩:=g A outer s H vs Q E (C.deeper _) i
 have I:Inv (YM CX P w K mg base N qual scope f cdv A outer s H E) [] (start N vs) H G:=LW S C.hd j U r x
 refine wpAny_mono (R [] G (start N vs) H _ I T) (λZ m h=>?_) λe m h=>h
 have fin:∀ {a:St} {H':Hp} {v:V} {u:Value},Inv (YM CX P w K mg base N qual scope f cdv A outer s H E) [] a H' m->Zo v u->Q v H'->CE outer P w H s Q u m :=
  λ{a H' v u} J p q=>⟨v,H',J.os,J.bare,J.base,J.hok,p,q⟩
 cases Z with
 | ret u =>
  obtain⟨v,a,H',J,p,q⟩:=h
  exact fin J p q
 | next =>
  obtain⟨a,H',J,q⟩:=h
  exact fin (v:=V.non) (u:=Value.none) J rfl q
 | brk =>
  obtain⟨_,_,_,q⟩:=h
  exact False.elim q
 | cont =>
  obtain⟨_,_,_,q⟩:=h
  exact False.elim q
variable{T:String}
section
variable{p:Pos}{t:TA}{id:String}{r:List V->Hp->VK->Prop}
def tCB(r:List V->Hp->VK->Prop)(t:TA):TE:=λσ H Q=>t σ H λvs H1=>r vs H1 Q
theorem ZA(n:Z1 X (.builtin id) r)(j:Gl X x)(i:X.mg x=none)(g:bootBuiltins x=some (.builtin id))(q:PA X (e::es) t)(hn:x ≠ "__name__" := by decide)(c:(x == ("__debug__" : Str))=false:=by decide)
  (m:starEach (e::es) X.env=(false,eval e X.env)::starEach es X.env:=by rfl) (b:(backTo pos (starEach es X.env)).any (·.1)=false:=by rfl):PE X (.Call (.Name x p) (e::es) [] pos) (tCB r t):=by
 intro a s f H Q I h
 refine wpAny_Call_Name_kw (WQ I j i g ?_ hn c)
 exact PyProof.Rows.callWith_builtin1 (thn (q pos a s f H _ I h) λus s1 ⟨vs,H1,I1,r1,q1⟩=>n a s1 f H1 vs us Q I1 r1 q1) m b
theorem Yk(n:Z1 X (.type T) r)(j:Gl X x)(i:X.mg x=none)(g:bootBuiltins x=some (.type T))(q:PA X (e::es) t)(hn:x ≠ "__name__" := by decide)(c:(x == ("__debug__" : Str))=false:=by decide)
  (m:starEach (e::es) X.env=(false,eval e X.env)::starEach es X.env:=by rfl) (b:(backTo pos (starEach es X.env)).any (·.1)=false:=by rfl):PE X (.Call (.Name x p) (e::es) [] pos) (tCB r t):=by
 intro a s f H Q I h
 refine wpAny_Call_Name_kw (WQ I j i g ?_ hn c)
 exact PyProof.Rows.callWith_type1 (thn (q pos a s f H _ I h) λus s1 ⟨vs,H1,I1,r1,q1⟩=>n a s1 f H1 vs us Q I1 r1 q1) m b
end
abbrev TO:=St->Hp->(Option Int->Hp->Prop)->Prop
def PO(X:Cx)(e:Option Expr)(t:TO):Prop :=
 ∀ (pins:List (Addr×Obj)) (s:Shared) (σ:St) (H:Hp) (Q:Option Int->Hp->Prop),Inv X pins σ H s->t σ H Q ->
  wpAny (model X.prog X.w) X.A (evalPart e X.env) (λu s'=>∃ o H',Inv X pins σ H' s'/\IsPart u o/\Q o H') X.xe s
def Pp:TO:=λ_ H Q=>Q none H
def Pq(t:TE):TO:=λσ H Q=>t σ H λx H1=>∃ i,x=.int i/\Q (some i) H1
variable{ns:List Int}
theorem L9:∀ {us:List Value},Zm (ns.map V.int) us->IntsAre us ns:=by
 induction ns with
 | nil=>intro us r;rw[map_nil] at r;cases r;exact .nil
 | cons n ns c =>
  intro us r
  rw[map_cons] at r
  cases r with
  | cons b a =>
   obtain⟨t,e⟩:=b
   subst e
   exact .cons n t (c a)
section
variable{lo hi:Option Expr}{tl th:TO}{p2:Pos}
theorem Ka:PO X none Pp:=by
 intro a s b H Q I h
 rw[evalPart_none]
 exact wpAny_pure ⟨none,H,I,.none,h⟩
theorem Kb(h:PE X e te):PO X (some e) (Pq te):=by
 intro a s b H Q I c
 rw[evalPart_some]
 refine thn (h a s b H _ I c) λu s1 ⟨x,H1,I1,r1,q1⟩=>?_
 obtain⟨i,rfl,q⟩:=q1
 obtain⟨t,rfl⟩:=r1
 exact⟨some i,H1,I1,.int i t,q⟩
def SlR(X:Cx)(r:V->Option Int->Option Int->Hp->VK->Prop):Prop :=
 ∀ (pins:List (Addr×Obj)) (s:Shared) (σ:St) (H:Hp) (x:V) (v vl vu:Value) (lo hi:Option Int) (sl:Addr) (Q:VK),Inv X pins σ H s->Zo x v->s.heap.IsSliceOf sl vl vu .none->IsPart vl lo->IsPart vu hi->r x lo hi H Q ->
  ∃ T id,typeLookup (.type T) "__getitem__" = pure (some (.builtin id))/\s.TypeIs v T/\wpAny (model X.prog X.w) X.A (getItem v (.ref sl)) (EP X pins σ Q) X.xe s
theorem SlR.or{r r':V->Option Int->Option Int->Hp->VK->Prop}(h:SlR X r)(h':SlR X r'):SlR X (λx lo hi H Q=>r x lo hi H Q\/r' x lo hi H Q):=by
 intro a s b H x v e c lo hi sl Q I f j i g q
 rcases q with q|q
 ·exact h a s b H x v e c lo hi sl Q I f j i g q
 ·exact h' a s b H x v e c lo hi sl Q I f j i g q
def tSl(r:V->Option Int->Option Int->Hp->VK->Prop)(te:TE)(tl th:TO):TE:=λσ H Q=>te σ H λx H1=>tl σ H1 λl H2=>th σ H2 λu H3=>r x l u H3 Q
theorem Kc{r:V->Option Int->Option Int->Hp->VK->Prop}(i:SlR X r)(m:PE X e te)(hl:PO X lo tl)(f:PO X hi th):PE X (.Subscript e (.Slice lo hi none p2) pos) (tSl r te tl th):=by
 intro a s c H Q I h
 refine Subscript_ (thn (m a s c H _ I h) λv s1 ⟨x,H1,I1,r1,q1⟩=>?_)
 refine wpAny_Slice (thn (hl a s1 c H1 _ I1 q1) λvl s2 ⟨l,H2,I2,pl,q2⟩=>thn (f a s2 c H2 _ I2 q2) λvu s3 ⟨u,H3,I3,pu,q3⟩=>?_)
 rw[evalPart_none]
 refine wpAny_pure ?_
 have p:Inv X a c H3 { s3 with heap:=s3.heap.push { cls:=.type "slice",data:=.fields #[vl,vu,.none] } }:=I3.kept (t':=s3.toks) λb w q=>Heap.get?_push_of_some _ q
 obtain⟨T,id,n,g,j⟩:=i a { s3 with heap:=s3.heap.push { cls:=.type "slice",data:=.fields #[vl,vu,.none] } } c H3 x v vl vu l u s3.heap.objs.size Q p r1 (Heap.IsSliceOf.new ..) pl pu q3
 show wpAny (model X.prog X.w) X.A (subscriptTail e (.Slice lo hi none p2) v (.ref s3.heap.objs.size)) (EP X a c Q) X.xe { s3 with heap:=s3.heap.push { cls:=.type "slice",data:=.fields #[vl,vu,.none] } }
 exact tail_any (ops:=[.ref s3.heap.objs.size,v]) g n j (by with_unfolding_all rfl)
def XO(xs:List V)(lo hi:Option Int):List V:=(xs.drop (HT.sIx xs.length 0 lo)).take (HT.sIx xs.length xs.length hi-HT.sIx xs.length 0 lo)
theorem Pr(xs:List V)(lo hi:Option Int):(XO xs lo hi).length<=xs.length:=by
 unfold XO
 rw[length_take,List.length_drop]
 omega
def SI(K:W.Frag):V->Option Int->Option Int->Hp->VK->Prop:=λx lo hi H Q=>∃ a xs,x=.ref a/\SqT K H a xs /\
 ¬ (HT.sIx xs.length 0 lo=0/\HT.sIx xs.length xs.length hi=xs.length)/\∀ p,H p=none->Q (.ref p) (upd H p (.tup (XO xs lo hi)))
theorem Kd:SlR X (SI X.K):=by
 intro i s A H x v C B e g sl Q I m y p n h
 obtain⟨a,xs,rfl,u,w,q⟩:=h
 cases m
 obtain⟨f,r,j,hz⟩:=I.tuple u
 have c:f.toArray.size=xs.length:=by rw[size_toArray];exact r.length.symm
 refine⟨"tuple",_,PyProof.Rows.slot_tuple_getitem.lookup,j.typeIs,?_⟩
 refine HT.L8 j y p n (by rw[c];exact w) ?_ (by rw[c];exact hz)
 rw[c]
 refine⟨.ref s.heap.objs.size,_,I.laid (t':=s.toks) (o:=.tup (XO xs e g)) (λb E q=>Heap.get?_push_of_some _ q) (Nat.le_refl _) ?_,rfl,q _ (I.hok.fresh (Nat.le_refl _))⟩
 exact⟨Nat.le_trans (Pr xs e g) hz,_,(r.drop (HT.sIx xs.length 0 e)).take (HT.sIx xs.length xs.length g-HT.sIx xs.length 0 e),YX.new _ _⟩
def UQ(K:W.Frag):R2:=λx y H Q=>∃ a b xs ys,x=.ref a/\y=.ref b/\SqT K H a xs/\SqT K H b ys/\xs≠[]/\xs.length+ys.length<=sizeLine /\
 (ys=[]->Q (.ref a) H)/\(ys≠[]->∀ p,H p=none->Q (.ref p) (upd H p (.tup (xs++ys))))
theorem Zm.nil_iff{xs:List V}(r:Zm xs us):us=[]↔xs=[]:=by
 cases r with
 | nil=>simp
 | cons _ _=>simp
theorem Ke:OpR X (binaryOp .Add) (UQ X.K):=by
 intro f s G H x y v u Q I m j h
 obtain⟨a,b,xs,i,rfl,rfl,F,E,C,hz,p,n⟩:=h
 cases m
 cases j
 obtain⟨B,e,A,_⟩:=I.tuple F
 obtain⟨g,c,r,_⟩:=I.tuple E
 refine HT.LX A r (λz=>C (e.nil_iff.mp z)) (λz=>⟨.ref a,H,I,rfl,p (c.nil_iff.mp z)⟩) (λz=>?_) (by rw[<- e.length,<- c.length];exact hz)
 refine⟨.ref s.heap.objs.size,_,I.laid (t':=s.toks) (o:=.tup (xs++i)) (λb J q=>Heap.get?_push_of_some _ q) (Nat.le_refl _) ?_,rfl,n (λw=>z (c.nil_iff.mpr w)) _ (I.hok.fresh (Nat.le_refl _))⟩
 exact⟨by rw[List.length_append];exact hz,_,e.append c,YX.new _ _⟩
end
def ixN(n:Nat)(i:Int):Option Nat:=if 0<=i then (if i<n then some i.toNat else none) else if -(n:Int)<=i then some (i+n).toNat else none
def atI(xs:List α)(i:Int):Option α:=(ixN xs.length i).bind λj=>xs[j]?
theorem Ps{i:Int}(h:ixN n i=some j):seqIndex? i n=some j/\j<n/\-(n:Int)<=i/\i<n:=by
 unfold ixN at h
 by_cases b:0<=i
 ·rw[if_pos b] at h
  by_cases a:i<n
  ·rw[if_pos a] at h
   have e:i.toNat=j:=Option.some.inj h
   exact⟨by rw[seqIndex_of b a,e],by omega,by omega,a⟩
  ·rw[if_neg a] at h;cases h
 ·rw[if_neg b] at h
  by_cases a:-(n:Int)<=i
  ·rw[if_pos a] at h
   have e:(i+n).toNat=j:=Option.some.inj h
   exact⟨by rw[seqIndex_neg (by omega) a,e],by omega,a,by omega⟩
  ·rw[if_neg a] at h;cases h
theorem SJ{xs:List α}{i:Int}{v:α}(h:atI xs i=some v):∃ j,seqIndex? i xs.length=some j/\xs[j]?=some v/\j<xs.length/\-(xs.length:Int)<=i/\i<xs.length:=by
 unfold atI at h
 cases e:ixN xs.length i with
 | none=>rw[e] at h;cases h
 | some j =>
  rw[e] at h
  obtain⟨f,c,b,a⟩:=Ps e
  exact⟨j,f,h,c,b,a⟩
theorem Vv{xs:List α}{v:α}(h:xs[j]?=some v):atI xs (j:Int)=some v:=by
 have a:j<xs.length:=(List.getElem?_eq_some_iff.mp h).1
 have e:ixN xs.length (j:Int)=some j:=by
  unfold ixN
  rw[if_pos (by omega),if_pos (by omega)];simp
 unfold atI;rw[e];exact h
def Kf(b:Expr):Prop:=∀ o i,subscripted b false o i=operate [o,i] (getItem o i)
def IxR(X:Cx)(r:R2):Prop :=
 ∀ (value slice:Expr) (pins:List (Addr×Obj)) (s:Shared) (σ:St) (H:Hp) (x y:V) (v u:Value) (Q:VK),Inv X pins σ H s->Zo x v->Zo y u->r x y H Q ->
  subscripted slice false v u=operate [v,u] (getItem v u)->wpAny (model X.prog X.w) X.A (subscriptTail value slice v u) (EP X pins σ Q) X.xe s
def MtR(X:Cx)(id:String)(r:V->List V->Hp->VK->Prop):Prop :=
 ∀ (pins:List (Addr×Obj)) (s:Shared) (σ:St) (H:Hp) (x:V) (xs:List V) (v:Value) (us:List Value) (Q:VK),Inv X pins σ H s->Zo x v->Zm xs us->r x xs H Q ->
  wpAny (model X.prog X.w) X.A (call (.builtin id) (v::us)) (EP X pins σ Q) X.xe s
variable{apos cpos:Pos}{its its':List Value}
section
variable{a b:Expr}{ta tb:TE}
theorem IxR.or(h:IxR X r)(h':IxR X r'):IxR X (λx y H Q=>r x y H Q\/r' x y H Q):=by
 intro a b c s e H x y v u Q I g f q i
 rcases q with q|q
 ·exact h a b c s e H x y v u Q I g f q i
 ·exact h' a b c s e H x y v u Q I g f q i
theorem Zj(m:IxR X r)(n:PE X a ta)(hb:PE X b tb)(j:Kf b):PE X (.Subscript a b pos) (tOp r ta tb):=by
 intro c s e H Q I h
 exact Subscript_ (SE n hb I h λv u f x y w p i g q=>m a b c f e w x y v u Q p i g q (j _ _))
def WV(K:W.Frag):R2:=λx y H Q=>∃ p xs i v,x=.ref p/\y=.int i/\SqL K H p xs/\atI xs i=some v/\Q v H
def UR(K:W.Frag):R2:=λx y H Q=>∃ p xs i v,x=.ref p/\y=.int i/\SqT K H p xs/\atI xs i=some v/\Q v H
def SK:R2:=λx y H Q=>∃ z i c,x=.str z/\y=.int i/\z.length<=sizeLine/\atI z.cps.toList i=some c/\Q (.str ⟨#[c]⟩) H
theorem Kg:IxR X (WV X.K):=by
 intro c e a s A H x y v u Q I J G h B
 obtain⟨p,xs,i,z,rfl,rfl,K,M,q⟩:=h
 cases J
 obtain⟨t,rfl⟩:=G
 obtain⟨m,r,g,hz⟩:=I.list K
 obtain⟨j,b,P,S,O,N⟩:=SJ M
 obtain⟨w,E,f⟩:=r.get P
 have L:=r.length
 have R:=line63
 have fin:EP X a A Q w s:=⟨z,H,I,f,q⟩
 by_cases C:0<=i
 ·have n:i.toNat=j:=by
   rw[seqIndex_of C N] at b
   exact Option.some.inj b
  exact item_listR g.isList C (by omega) (by rw[n];simpa using E) fin B
 ·have n:(i+(m.toArray.size:Int)).toNat=j:=by
   rw[seqIndex_neg (by omega) O] at b
   rw[size_toArray,<- L]
   exact Option.some.inj b
  exact subscriptTail_builtinR (x:=w) g.isList.typeIs slot_list_getitem.lookup
   (wpAny_getItem_list_neg (Q:=λr F=>r=w/\EP X a A Q r F) g.isList (by omega) (by rw[size_toArray]<;>omega) (by omega) (by rw[n];simpa using E) ⟨rfl,fin⟩) B
theorem Kh:IxR X (UR X.K):=by
 intro b c a s f H x y v u Q I A n h C
 obtain⟨p,xs,i,z,rfl,rfl,E,G,q⟩:=h
 cases A
 obtain⟨t,rfl⟩:=n
 obtain⟨B,r,g,hz⟩:=I.tuple E
 obtain⟨j,K,J,P,O,N⟩:=SJ G
 obtain⟨w,L,e⟩:=r.get J
 have F:=r.length
 have M:=line63
 have fin:EP X a f Q w s:=⟨z,H,I,e,q⟩
 exact subscriptTail_builtinR (x:=w) g.typeIs slot_tuple_getitem.lookup
  (getItem_tuple (j:=j) (Q:=λr m=>r=w/\EP X a f Q r m) g (by omega) (by omega) (by rw[size_toArray,<- F];exact K) (by simpa using L) ⟨rfl,fin⟩) C
theorem Ki:IxR X SK:=by
 intro a b e s F H x y v u Q I m g h n
 obtain⟨z,i,c,rfl,rfl,hz,r,q⟩:=h
 obtain⟨t,rfl⟩:=m
 obtain⟨t',rfl⟩:=g
 obtain⟨j,f,B,J,A,w⟩:=SJ r
 have p:z.cps.toList.length=z.length:=by simp[Str.length]
 rw[p] at f A w
 have G:=line63
 exact tail_any (typeIs_str s z t) slot_str_getitem.lookup (getItem_str (c:=c) (by
  have E:decide (i < -(2 ^ 63:Int))=false:=decide_eq_false (by omega)
  have C:decide (i≥2 ^ 63)=false:=decide_eq_false (by omega)
  rw[E,C,Bool.or_false]) (by rw[f];simpa using B) ⟨.str ⟨#[c]⟩,H,I.tok _,⟨_,rfl⟩,q⟩) n
theorem Kj(its:List Value)(n j:Nat)(u:Value):Obj.mapSeq (·.setIfInBounds j u) { cls:=.type "list",data:=.seq its.toArray n }={ cls:=.type "list",data:=.seq (its.set j u).toArray n }:=by
 simp[Obj.mapSeq]
theorem Inv.lst{pins:List (Addr×Obj)}{σ:St}{H:Hp}{s:Shared}{p:Addr}{xs:List V}(I:Inv X pins σ H s)(h:H p=some (.lst xs)) :
  ∃ (its:List Value) (n:Nat),Zm xs its/\s.heap.get? p=some { cls:=.type "list",data:=.seq its.toArray n }/\xs.length<=sizeLine:=by
 obtain⟨z,its,n,r,e⟩:=I.hok p _ h
 exact⟨its,n,r,e,z⟩
theorem Inv.lstUpd{p:Addr}{xs ys:List V}{a:Nat}{f:Obj->Obj}(I:Inv X pins σ H s)(h:H p=some (.lst xs))
  (g:s.heap.get? p=some { cls:=.type "list",data:=.seq its.toArray n }) (c:f { cls:=.type "list",data:=.seq its.toArray n }={ cls:=.type "list",data:=.seq its'.toArray a }) (r:Zm ys its') (hz:ys.length<=sizeLine) (t:Nat) :
  Inv X pins σ (upd H p (.lst ys)) { s with heap:=s.heap.update p f,toks:=t }:=by
 have e:(s.heap.update p f).get? p=some { cls:=.type "list",data:=.seq its'.toArray a }:=by
  rw[Heap.get?_update_self f g (by rw[c]<;>rfl),c]
 refine I.write (x:=p) (e:=p) (by rw[h];trivial) (.inl rfl) (λb u i q=>(Heap.get?_update_other _ _ (Ne.symm i)).trans q) ⟨_,e⟩ ?_
 exact⟨hz,its',a,r,e⟩
def Pw:V->V->V->Hp->(Hp->Prop)->Prop:=λo i v H Q=>∃ p xs k j,o=.ref p/\i=.int k/\H p=some (.lst xs)/\ixN xs.length k=some j/\Q (upd H p (.lst (xs.set j v)))
theorem Kk:Sx X Pw:=by
 intro a s B H o i v J K u Q I E F C h
 obtain⟨p,xs,k,j,rfl,rfl,m,G,q⟩:=h
 cases E
 obtain⟨t,rfl⟩:=F
 obtain⟨b,n,r,e,hz⟩:=I.lst m
 obtain⟨c,M,x,w⟩:=Ps G
 have f:=r.length
 have L:=line63
 have A:Inv X a B (upd H p (.lst (xs.set j v))) { s with heap:=s.heap.update p (Obj.mapSeq (·.setIfInBounds j u)) } :=
  I.lstUpd m e (Kj b n j u) (r.set C j) (by rw[List.length_set];exact hz) s.toks
 by_cases y:0<=k
 ·have g:k.toNat=j:=by
   rw[seqIndex_of y w] at c
   exact Option.some.inj c
  exact PySem.W.ki_setAt e y (by omega) (by rw[size_toArray,<- f];exact w) (by rw[g];exact⟨_,A,q⟩)
 ·have g:(k+(b.toArray.size:Int)).toNat=j:=by
   rw[seqIndex_neg (by omega) x] at c
   rw[size_toArray,<- f]
   exact Option.some.inj c
  exact PySem.W.ki_setBack e (by omega) (by rw[size_toArray,<- f];exact x) (by omega) (by rw[g];exact⟨_,A,q⟩)
theorem Kl(lo hi:Option Int)(n:Nat):(sliceBounds lo hi none n).1=((HT.sIx n 0 lo:Nat):Int)/\(sliceBounds lo hi none n).2.1=((HT.sIx n n hi:Nat):Int)/\(sliceBounds lo hi none n).2.2=1:=by
 refine⟨?_,?_,rfl⟩
 ·cases lo with
  | none=>simp[sliceBounds,HT.sIx]
  | some i =>
   simp only[sliceBounds,HT.sIx,Option.getD_none,show (1:Int) > 0 by decide,if_true]
   by_cases h:i<0
   ·simp only[h,if_true]<;>omega
   ·simp only[h,if_false]<;>omega
 ·cases hi with
  | none=>simp[sliceBounds,HT.sIx]
  | some i =>
   simp only[sliceBounds,HT.sIx,Option.getD_none,show (1:Int) > 0 by decide,if_true]
   by_cases h:i<0
   ·simp only[h,if_true]<;>omega
   ·simp only[h,if_false]<;>omega
theorem Km(its:List Value)(lo hi:Option Int):slicePick its.toArray lo hi none=((its.drop (HT.sIx its.length 0 lo)).take (HT.sIx its.length its.length hi-HT.sIx its.length 0 lo)).toArray:=by
 obtain⟨c,b,a⟩:=Kl lo hi its.toArray.size
 unfold slicePick
 rw[c,b,a]
 simp only[sliceRange_one,pick_run,size_toArray]<;>rfl
def SL(K:W.Frag):V->Option Int->Option Int->Hp->VK->Prop:=λx lo hi H Q=>∃ a xs,x=.ref a/\SqL K H a xs/\∀ p,H p=none->Q (.ref p) (upd H p (.lst (XO xs lo hi)))
theorem Kn:SlR X (SL X.K):=by
 intro g s y H x v B A e f sl Q I j w n m h
 obtain⟨a,xs,rfl,u,q⟩:=h
 cases j
 obtain⟨p,r,i,hz⟩:=I.list u
 have c:=r.length
 refine⟨"list",_,slot_list_getitem.lookup,i.isList.typeIs,?_⟩
 refine wpAny_getItem_list_slice i.isList w n m .none (by simp) ?_ (by rw[size_toArray]<;>omega)
 rw[Km,<- c]
 refine⟨.ref s.heap.objs.size,_,I.laid (t':=s.toks) (o:=.lst (XO xs e f)) (λb C q=>Heap.get?_push_of_some _ q) (Nat.le_refl _) ?_,rfl,q _ (I.hok.fresh (Nat.le_refl _))⟩
 exact⟨Nat.le_trans (Pr xs e f) hz,_,0,(r.drop (HT.sIx xs.length 0 e)).take (HT.sIx xs.length xs.length f-HT.sIx xs.length 0 e),Heap.get?_push_size _ rfl⟩
theorem Ko:OpR X (compareOp .NotIn) (λx y H Q=>∃ i j,x=.str i/\y=.str j/\Q (.bl (!(!(Builtin.Str.occurrences j i 0 j.length 1).isEmpty))) H):=by
 intro a s e H x y v u Q I c b h
 obtain⟨i,j,rfl,rfl,q⟩:=h
 obtain⟨t,rfl⟩:=c
 obtain⟨t',rfl⟩:=b
 exact notIn_str ⟨.bl _,H,I,rfl,q⟩
theorem Kq:Z1 X (.builtin "len") (λxs H Q=>∃ p ys,xs=[.ref p]/\(SqL X.K H p ys\/SqT X.K H p ys)/\Q (.int ys.length) H):=by
 intro g s j H xs us Q I r h
 obtain⟨p,ys,rfl,b,q⟩:=h
 obtain⟨u,rfl,i⟩:=vals1 r
 cases i
 have m:=line63
 rcases b with b|b
 ·obtain⟨f,c,e,hz⟩:=I.list b
  have a:=c.length
  exact Calls.call_len_list e.isList (by simp only[size_toArray]<;>omega) ⟨.int ys.length,H,I.tok _,⟨s.toks+1,by rw[size_toArray,a]⟩,q⟩
 ·obtain⟨f,c,e,hz⟩:=I.tuple b
  have a:=c.length
  exact len_tuple e (by simp only[size_toArray]<;>omega) ⟨.int ys.length,H,I.tok _,⟨s.toks+1,by rw[size_toArray,a]⟩,q⟩
theorem Kr:Z1 X (.builtin "len") (λxs H Q=>∃ z,xs=[.str z]/\z.length<=sizeLine/\Q (.int z.length) H):=by
 intro a s b H xs us Q I r h
 obtain⟨z,rfl,hz,q⟩:=h
 obtain⟨u,rfl,t,rfl⟩:=vals1 r
 have c:=line63
 exact len_str (by omega) ⟨.int z.length,H,I.tok _,⟨_,rfl⟩,q⟩
theorem Z1.or{f:Value}{r r':List V->Hp->VK->Prop}(h:Z1 X f r)(h':Z1 X f r'):Z1 X f (λxs H Q=>r xs H Q\/r' xs H Q):=by
 intro a s b H xs us Q I rs q
 rcases q with q|q
 ·exact h a s b H xs us Q I rs q
 ·exact h' a s b H xs us Q I rs q
theorem Ks:Z1 X (.type "list") (λxs H Q=>∃ p ys,xs=[.ref p]/\(SqL X.K H p ys\/SqT X.K H p ys)/\∀ l,H l=none->Q (.ref l) (upd H l (.lst ys))):=by
 intro g s B H xs us Q I r h
 obtain⟨p,ys,rfl,j,q⟩:=h
 obtain⟨u,rfl,C⟩:=vals1 r
 cases C
 have fin:∀ (a:List Value),Zm ys a->ys.length<=sizeLine->∀ (h':Heap) (f:Nat),(∀ b A,s.heap.get? b=some A->h'.get? b=some A) ->
   h'.get? s.heap.objs.size=some { cls:=.type "list",dict:=none,data:=.seq a.toArray f,slots:=#[] }->EP X g B Q (.ref s.heap.objs.size) { s with heap:=h' }:=λa c hz h' f i e =>
  ⟨.ref s.heap.objs.size,_,I.laid (t':=s.toks) i (Nat.le_refl _) (show ZB X.prog X.w _ h' _ (.lst ys) from ⟨hz,a,f,c,e⟩),rfl,q _ (I.hok.fresh (Nat.le_refl _))⟩
 rcases j with j|j
 ·obtain⟨a,c,v,hz⟩:=I.list j
  have m:=c.length
  obtain⟨o,w,y,n,x⟩:=v.isList
  exact call_list_seq p (.inl rfl) w y x (λh' f i e=>fin a c hz h' f i e) (by simp only[size_toArray]<;>omega)
 ·obtain⟨a,c,v,hz⟩:=I.tuple j
  have m:=c.length
  obtain⟨o,w,y,n,x⟩:=v
  exact call_list_seq p (.inr rfl) w y x (λh' f i e=>fin a c hz h' f i e) (by simp only[size_toArray]<;>omega)
theorem Kt:Z1 X (.type "tuple") (λxs H Q=>∃ p ys,xs=[.ref p]/\((SqL X.K H p ys/\∀ l,H l=none->Q (.ref l) (upd H l (.tup ys)))\/(SqT X.K H p ys/\Q (.ref p) H))):=by
 intro a s j H xs us Q I r h
 obtain⟨p,ys,rfl,h⟩:=h
 obtain⟨u,rfl,v⟩:=vals1 r
 cases v
 rcases h with⟨i,q⟩|⟨i,q⟩
 ·obtain⟨c,f,g,hz⟩:=I.list i
  have m:=f.length
  refine call_tuple_list g.isList (λh' w=>?_) (by simp only[size_toArray]<;>omega)
  have n:Inv X a j H { s with heap:=h' }:=I.kept (t':=s.toks) w
  have x:Inv X a j (upd H h'.objs.size (.tup ys)) { s with heap:=h'.push { cls:=.type "tuple",data:=.seq c.toArray } } :=
   n.laid (t':=s.toks) (λb o e=>Heap.get?_push_of_some _ e) (Nat.le_refl _) (show ZB X.prog X.w _ _ _ (.tup ys) from ⟨hz,c,f,YX.new _ _⟩)
  exact⟨.ref h'.objs.size,_,x,rfl,q _ (n.hok.fresh (Nat.le_refl _))⟩
 ·obtain⟨c,f,g,hz⟩:=I.tuple i
  exact call_tuple_same g ⟨.ref p,H,I,rfl,q⟩
def tyV(K:W.Frag)(T:String)(x:V)(H:Hp):Prop:=match x with
 | .str _=>T = "str"
 | .int _=>T = "int"
 | .ref p=>(T = "list" /\ ∃ xs,SqL K H p xs)\/(T = "tuple" /\ ∃ o,K.lookup p=some o/\o.cls=.type "tuple" /\ o.dict=none) \/
   (T = "dict" /\ ((∃ kvs,H p=some (.dK kvs))\/∃ kvs,H p=some (.dT kvs)))\/(T = "set" /\ ∃ S n,H p=some (.set S n))
 | _=>False
theorem Px{x:V}{v:Value}(I:Inv X pins σ H s)(r:Zo x v)(ty:tyV X.K T x H) :
  s.TypeIs v T/\∀ a,v=.ref a->∃ j,s.heap.get? a=some j/\j.dict=none:=by
 cases x with
 | str z =>
  obtain⟨t,rfl⟩:=r
  cases (show T = "str" from ty)
  exact⟨typeIs_str s z t,λ_ e=>nomatch e⟩
 | int i =>
  obtain⟨t,rfl⟩:=r
  cases (show T = "int" from ty)
  exact⟨typeIs_int s i t,λ_ e=>nomatch e⟩
 | ref p =>
  cases r
  rcases ty with⟨rfl,xs,q⟩|⟨rfl,o,b,u,f⟩|⟨rfl,b⟩|⟨rfl,S,n,b⟩
  ·obtain⟨m,_,h,_⟩:=I.list q
   refine⟨h.isList.typeIs,λa e=>?_⟩
   cases e
   obtain⟨o,n,e,c,f,_⟩:=h
   exact⟨o,e,f⟩
  ·refine⟨⟨o,I.kIn p o b,u⟩,λa e=>?_⟩
   cases e
   exact⟨o,I.kIn _ o b,f⟩
  ·have z:∃ o,s.heap.get? p=some o/\o.ExactDict:=by
    rcases b with⟨kvs,b⟩|⟨kvs,b⟩
    ·obtain⟨_,_,_,_,o,_,_,e,ex,_⟩:=I.hok p _ b
     exact⟨o,e,ex⟩
    ·obtain⟨_,_,_,_,o,_,_,e,ex,_⟩:=I.hok p _ b
     exact⟨o,e,ex⟩
   obtain⟨o,e,ex⟩:=z
   refine⟨⟨o,e,ex.1⟩,λa g=>?_⟩
   cases g
   exact⟨o,e,ex.2.1⟩
  ·obtain⟨o,_,_,_,e,ex,_⟩:=I.hok p _ b
   refine⟨⟨o,e,ex.1⟩,λa g=>?_⟩
   cases g
   exact⟨o,e,ex.2.1⟩
 | _=>exact False.elim ty
def US(K:W.Frag)(T:String)(r:V->List V->Hp->VK->Prop)(to:TE):TE:=λσ H Q=>to σ H λx H1=>tyV K T x H1/\r x [] H1 Q
def tBM(K:W.Frag)(T:String)(r:V->List V->Hp->VK->Prop)(to:TE)(t:TA):TE:=λσ H Q=>to σ H λx H1=>tyV K T x H1/\t σ H1 λxs H2=>r x xs H2 Q
variable{o:Expr}{t:TA}{id:String}{r:V->List V->Hp->VK->Prop}
theorem Ku(pa:PlainAttrs T)(slot:Slot T name id)(e:typeOf (.builtin id)=pure (.type "method_descriptor"))(i:MtR X id r)(g:PE X o to)
  (c:attributeBase o name X.env (eval o X.env)=eval o X.env:=by rfl) (b:(apos.endLine == cpos.line)=true:=by rfl):PE X (.Call (.Attribute o name apos) [] [] cpos) (US X.K T r to):=by
 intro a s f H Q I h
 refine wpAny_Call_method0_late c b (thn (g a s f H _ I h) λv s1 ⟨x,H1,I1,r1,ty,q1⟩=>?_)
 obtain⟨m,j⟩:=Px I1 r1 ty
 exact⟨T,id,pa,slot,e,m,j,Calls.callWith_builtin rfl (PySem.evalArgs_none (i a s1 f H1 x [] v [] Q I1 r1 .nil q1))⟩
theorem Kv(pa:PlainAttrs T)(slot:Slot T name id)(j:typeOf (.builtin id)=pure (.type "method_descriptor"))(q:MtR X id r)(p:PE X o to)(u:PA X (e::es) t)
  (f:attributeBase o name X.env (eval o X.env)=eval o X.env:=by rfl)
  (g:((backTo cpos (starEach (e::es) X.env)).all (λx=>!x.1) && (backToKw cpos (keywordEach [] X.env)).all (λx=>x.1.isSome)
   && decide ((e::es).length+([]:List Keyword).length+(if ([]:List Keyword).isEmpty then 0 else 1)<30))=true:=by rfl)
  (c:(apos.endLine == cpos.line)=true:=by rfl) (n:starEach (e::es) X.env=(false,eval e X.env)::starEach es X.env:=by rfl) (b:(backTo cpos (starEach es X.env)).any (·.1)=false:=by rfl) :
  PE X (.Call (.Attribute o name apos) (e::es) [] cpos) (tBM X.K T r to t):=by
 intro a s i H Q I h
 refine wpAny_Call_method_late f g c rfl (thn (p a s i H _ I h) λv s1 ⟨x,H1,I1,r1,ty,q1⟩=>?_)
 obtain⟨y,w⟩:=Px I1 r1 ty
 refine⟨T,id,pa,slot,j,y,w,?_⟩
 have m:=u cpos a s1 i H1 _ I1 q1
 rw[n] at m ⊢
 refine Calls.callWith_builtin (by show (false || (backTo cpos (starEach es X.env)).any (·.1))=false;rw[b]<;>rfl) (Calls.evalArgs_plain ?_)
 exact thn m λus s2 ⟨vs,H2,I2,r2,q2⟩=>q a s2 i H2 x vs v us Q I2 r1 r2 q2
end
def MtM(X:Cx)(id:String)(r:V->List V->Hp->VK->Prop):Prop :=
 ∀ (pins:List (Addr×Obj)) (s:Shared) (σ:St) (H:Hp) (x:V) (xs:List V) (v:Value) (us:List Value) (Q:VK),Inv X pins σ H s->Zo x v->Zm xs us->r x xs H Q ->
  wpAny (model X.prog X.w) X.A (call (.builtin id) (v::us)) (EP X pins σ Q) X.xe s
theorem Zm.one:∀ {x:V} {us:List Value},Zm [x] us->∃ u,us=[u]/\Zo x u
 | _,_,.cons r .nil=>⟨_,rfl,r⟩
theorem Zm.two:∀ {x y:V} {us:List Value},Zm [x,y] us->∃ u v,us=[u,v]/\Zo x u/\Zo y v
 | _,_,_,.cons r (.cons q .nil)=>⟨_,_,rfl,r,q⟩
theorem Zm.zero:∀ {us:List Value},Zm [] us->us=[]
 | _,.nil=>rfl
theorem Zm.reverse{xs:List V}{us:List Value}(h:Zm xs us):Zm xs.reverse us.reverse:=by
 induction h with
 | nil=>exact .nil
 | cons r t a=>rw[reverse_cons,reverse_cons];exact Zm.append a (.cons r .nil)
theorem Zm.rep{xs:List V}{us:List Value}(h:Zm xs us):∀ k:Nat,Zm (List.replicate k xs).flatten (List.replicate k us).flatten
 | 0=>.nil
 | k+1=>by
  rw[replicate_succ,replicate_succ,flatten_cons,flatten_cons]
  exact Zm.append h (Zm.rep h k)
theorem Py(its:List Value):∀ (k:Nat) (a:List Value),
  List.foldl (λc b=>c++b) a.toArray (List.replicate k its.toArray)=(a++(List.replicate k its).flatten).toArray
 | 0,a=>by simp
 | k+1,a=>by
  have e:a.toArray++its.toArray=(a++its).toArray:=by simp
  have f:(a++its)++(List.replicate k its).flatten=a++(List.replicate (k+1) its).flatten:=by
   rw[replicate_succ,flatten_cons,List.append_assoc]
  rw[<- f,<- Py its k (a++its),<- e,replicate_succ,List.foldl_cons]
variable{l:Addr}
section
variable{xs ys:List V}
theorem Inv.lset{f:Array Value->Array Value}(I:Inv X pins σ H s)(h:H l=some (.lst xs))
  (e:s.heap.get? l=some { cls:=.type "list",data:=.seq its.toArray n }) (c:f its.toArray=its'.toArray) (a:Zm ys its') (hz:ys.length<=sizeLine) :
  Inv X pins σ (upd H l (.lst ys)) { s with heap:=s.heap.update l (Obj.mapSeq f),toks:=t' }:=by
 have q:=PySem.IsL.update e f
 rw[c] at q
 refine I.write (x:=l) (e:=l) (by rw[h];exact trivial) (.inl rfl) (λi u g b=>(Heap.get?_update_other s.heap (Obj.mapSeq f) (Ne.symm g)).trans b) ⟨_,q⟩ ?_
 exact⟨hz,its',_,a,q⟩
theorem Inv.lnew(I:Inv X pins σ H s)(a:Zm ys its)(hz:ys.length<=sizeLine) :
  Inv X pins σ (upd H s.heap.objs.size (.lst ys)) { s with heap:=s.heap.push { cls:=.type "list",data:=.seq its.toArray },toks:=t' } :=
 I.laid (λ_ _ q=>Heap.get?_push_of_some _ q) (Nat.le_refl _) ⟨hz,its,0,a,Heap.get?_push_size _ rfl⟩
theorem Inv.fresh(I:Inv X pins σ H s):H s.heap.objs.size=none:=I.hok.fresh (Nat.le_refl _)
theorem Inv.lstM(I:Inv X pins σ H s)(a:H l=some (.lst xs)):xs.length<=sizeLine/\∃ (its:List Value) (n:Nat),Zm xs its/\xs.length=its.length/\s.heap.get? l=some { cls:=.type "list",data:=.seq its.toArray n }:=by
 obtain⟨z,its,n,r,e⟩:=I.hok l _ a
 exact⟨z,its,n,r,r.length,e⟩
theorem Kw(h:n<=sizeLine):Builtin.List.listTooLong n=false:=by
 unfold Builtin.List.listTooLong
 exact decide_eq_false (by omega)
end
def XQ:V->List V->Hp->VK->Prop:=λx vs H Q=>∃ l xs y,x=.ref l/\vs=[y]/\H l=some (.lst xs)/\xs.length<sizeLine/\Q .non (upd H l (.lst (xs++[y])))
theorem Xl:MtM X "list.append" XQ:=by
 intro b s j H x vs v us Q I f g h
 obtain⟨l,xs,y,rfl,rfl,c,hz,q⟩:=h
 cases f
 obtain⟨u,rfl,i⟩:=g.one
 obtain⟨z,a,n,r,m,e⟩:=I.lstM c
 refine call_meets F.slot_list_append ⟨_,e,rfl⟩ F.entry_list_append (F.args_list_append_2 _ _) (PySem.list_append l a.toArray n u (by rw[size_toArray];omega)) ⟨e,?_⟩
 refine⟨.non,_,I.lset (its':=a++[u]) c e (by simp) (r.append (.cons i .nil)) ?_,rfl,q⟩
 rw[List.length_append,length_singleton]
 omega
def SM:V->List V->Hp->VK->Prop:=λx vs H Q=>∃ l xs,x=.ref l/\vs=[]/\H l=some (.lst xs)/\Q .non (upd H l (.lst xs.reverse))
theorem Kx:MtM X "list.reverse" SM:=by
 intro c s j H x vs v us Q I g i h
 obtain⟨l,xs,rfl,rfl,f,q⟩:=h
 cases g
 have b:=i.zero
 subst b
 obtain⟨z,a,n,r,m,e⟩:=I.lstM f
 refine call_meets F.slot_list_reverse ⟨_,e,rfl⟩ F.entry_list_reverse (F.args_list_reverse_1 _) (AutoSeq1.list_reverse_list_0 l a.toArray n (by rw[size_toArray];omega)) ⟨e,?_⟩
 refine⟨.non,_,I.lset (its':=a.reverse) f e (by simp) r.reverse ?_,rfl,q⟩
 rw[List.length_reverse]
 omega
def UT:R2:=λx y H Q=>∃ l k xs,x=.ref l/\y=.int k/\H l=some (.lst xs)/\-(2 ^ 63)<=k/\k<2 ^ 63/\xs.length*k.toNat<=sizeLine /\
 ∀ p,H p=none->Q (.ref p) (upd H p (.lst (List.replicate k.toNat xs).flatten))
theorem Ky(xs:List α)(k:Nat):(List.replicate k xs).flatten.length=k*xs.length:=by
 induction k with
 | zero=>simp
 | succ k a=>rw[replicate_succ,flatten_cons,List.length_append,a,Nat.succ_mul,Nat.add_comm]
theorem Kz:OpR X (binaryOp .Mult) UT:=by
 intro A s N H x y v u Q I E C h
 obtain⟨l,k,xs,rfl,rfl,J,L,K,hz,q⟩:=h
 cases E
 obtain⟨t,rfl⟩:=C
 obtain⟨z,b,n,r,G,e⟩:=I.lstM J
 have g:b.toArray.size*k.toNat<=sizeLine:=by rw[size_toArray,<- G];exact hz
 have j:¬ b.toArray.size*k.toNat > (2 ^ 63-1) / 8:=by
  have:(sizeLine:Nat)<=(2 ^ 63-1) / 8:=by decide
  omega
 have i:¬ (!Builtin.List.listFitsIndex k)=true:=by
  rw[fitsIndex_both L K]
  exact Bool.false_ne_true
 have c:¬ Builtin.List.listTooLong (b.toArray.size*k.toNat)=true:=by
  rw[Kw g]
  exact Bool.false_ne_true
 have f:List.foldl (λw p=>w++p) #[] (List.replicate (if b.toArray.isEmpty=true then 0 else k.toNat) b.toArray)=(List.replicate k.toNat b).flatten.toArray:=by
  have M:∀ m:Nat,List.foldl (λw p=>w++p) #[] (List.replicate m b.toArray)=(List.replicate m b).flatten.toArray:=λm=>by
   have:=Py b m []
   rw[nil_append] at this
   exact this
  rw[M]
  cases b with
  | nil=>simp
  | cons a O=>rw[if_neg (by simp)]
 refine wpAny_binaryOp_repeat_ref (T := "list") (U := "int") (by decide) ⟨_,e,rfl⟩ (λB=>typeIs_int B k t) noFill_list_mul F.fills_int_mul F.slot_int_rmul repeat_list F.slot_int_index.lookup
  (call_meets F.slot_int_rmul (typeIs_int s k t) F.entry_int_rmul (F.args_int_rmul_2 _ _) (int___rmul___int_list k t l b.toArray n)
   ⟨e,rfl,⟨_,e,rfl⟩,call_meets F.slot_list_mul ⟨_,e,rfl⟩ F.entry_list_mul (F.args_list_mul_2 _ _) (AutoListH.list___mul___list_int_3 l b.toArray n k t i j c) ⟨e,?_⟩⟩)
 rw[f]
 exact⟨.ref _,_,I.lnew (t':=s.toks) (r.rep k.toNat) (by rw[Ky,Nat.mul_comm];exact hz),rfl,q _ I.fresh⟩
theorem Pz:∀ {vs:List Value} {ns:List Int},IntsAre vs ns->Zm (ns.map V.int) vs
 | _,_,.nil=>.nil
 | _,_,.cons n t h=>.cons ⟨t,rfl⟩ (Pz h)
def ZP(s:Stmt):Arguments:=match s with
 | .FunctionDef _ a _ _ _ _ _ _ _ _=>a
 | _=>{ posonlyargs:=[],args:=[],vararg:=none,kwonlyargs:=[],kw_defaults:=[],kwarg:=none,defaults:=[] }
def Zv(s:Stmt):List Stmt:=match s with
 | .FunctionDef _ _ b _ _ _ _ _ _ _=>b
 | _=>[]
def Zd(s:Stmt):Scope:=match s with
 | .FunctionDef _ _ _ _ _ _ sc _ _ _=>sc
 | _=>{ kind:=.function,names:=[],isGenerator:=false,isCoroutine:=false }
abbrev CX0:CXT:=λ_ _ _ _ _ _=>False
abbrev E0:XK:=λ_ _ _=>False
theorem pass0:WU CX0 X E0:=λ_ _ _ _ _ _ _ h=>h.elim
theorem small1000(h:n<=1000):n<sizeLine:=Nat.lt_of_le_of_lt h (by decide)
theorem pv(i:Nat)(c:X.N[i]?=some x:=by rfl)(b:Vis X.env.scope x:=by first|exact Or.inl rfl|exact Or.inr (Or.inl rfl)|exact Or.inr (Or.inr rfl))(hd:(x == ("__debug__" : Str))=false:=by decide)
  (a:(x == ("__classdict__" : Str))=false:=by decide):PE X (.Name x pos) (Zu i):=Q7 c b hd a
variable{B:Prop}
theorem SN{A:Prop}(h:B):if false=true then A else B:=by
 rw[if_neg Bool.false_ne_true]
 exact h
theorem iteT{A:Prop}(h:A):if true=true then A else B:=by
 rw[if_pos rfl]
 exact h
theorem ite2{c A:Prop}[Decidable c](h1:c->A)(h2:¬ c->B):if c then A else B:=by
 by_cases h:c
 ·rw[if_pos h]
  exact h1 h
 ·rw[if_neg h]
  exact h2 h
theorem SO{c A:Prop}[Decidable c](a:c)(h:B):if (!decide c)=true then A else B:=by
 rw[decide_eq_true a]
 exact SN h
def Zf(H H':Hp):Prop:=∀ b o,H b=some o->H' b=some o
theorem Zf.refl(H:Hp):Zf H H:=λ_ _ h=>h
variable{H2:Hp}
theorem Zf.trans(a:Zf H H1)(b:Zf H1 H2):Zf H H2:=λc o h=>b c o (a c o h)
theorem Zf.free(e:Zf H H')(h:H' l=Option.none):H l=Option.none:=by
 cases q:H l with
 | none=>rfl
 | some o =>
  rw[e l o q] at h
  cases h
theorem Zf.seq{xs:List V}(e:Zf H H')(h:SqL K H a xs):SqL K H' a xs:=by
 rcases h with (h|⟨o,h⟩)|h
 ·exact .inl (.inl (e _ _ h))
 ·exact .inl (.inr ⟨o,e _ _ h⟩)
 ·exact .inr h
section
variable [DecidableEq κ]
def Yl(kvs:List (κ×V))(k:κ):Option V:=(kvs.find? λkv=>decide (kv.1=k)).map (·.2)
def ZU(kvs:List (κ×V))(k:κ)(v:V):List (κ×V) :=
 if (kvs.any λkv=>decide (kv.1=k))=true then kvs.map (λkv=>if kv.1=k then (kv.1,v) else kv) else kvs++[(k,v)]
theorem Uf{p:κ×V}{r:List (κ×V)}{k:κ}(e:p.1=k):Yl (p::r) k=some p.2:=by simp[Yl,find?_cons,e]
theorem Ug{p:κ×V}{r:List (κ×V)}{k:κ}(e:¬ p.1=k):Yl (p::r) k=Yl r k:=by simp[Yl,find?_cons,e]
theorem UU(k:κ):∀ kvs:List (κ×V),(kvs.any λa=>decide (a.1=k))=(Yl kvs k).isSome
 | []=>rfl
 | p::r=>by
  rw[any_cons]
  by_cases e:p.1=k
  ·simp only[Uf e,decide_eq_true e,Bool.true_or,Option.isSome_some]
  ·rw[Ug e,decide_eq_false e,Bool.false_or];exact UU k r
theorem Vw(kvs:List (κ×V))(k:κ)(v:V):(ZU kvs k v).length<=kvs.length+1:=by
 unfold ZU
 split
 ·rw[length_map];omega
 ·rw[List.length_append,length_cons,List.length_nil];omega
theorem YJ.isSome_eq{o:Option V}{u:Option Value}(r:YJ o u):o.isSome=u.isSome:=by
 cases o with
 | none=>cases u with
  | none=>rfl
  | some _=>exact (show False from r).elim
 | some _=>cases u with
  | none=>exact (show False from r).elim
  | some _=>rfl
theorem KV.val{kvs:List (κ×V)}{vs:List (κ×Value)}(r:KV kvs vs)(k:κ):YJ (Yl kvs k) (valueAt vs k):=by
 unfold KV at r
 induction r with
 | nil=>exact True.intro
 | @cons p q j a h t g =>
  obtain⟨f,i⟩:=h
  by_cases e:p.1=k
  ·have c:q.1=k:=f.symm.trans e
   have b:valueAt (q::a) k=some q.2:=by simp[valueAt,find?_cons,c]
   rw[Uf e,b];exact i
  ·have c:¬ q.1=k:=λz=>e (f.trans z)
   have b:valueAt (q::a) k=valueAt a k:=by simp[valueAt,find?_cons,c]
   rw[Ug e,b];exact g
theorem KV.any{kvs:List (κ×V)}{vs:List (κ×Value)}(r:KV kvs vs)(k:κ):(kvs.any λa=>decide (a.1=k))=vs.any λa=>decide (a.1=k):=by
 unfold KV at r
 induction r with
 | nil=>rfl
 | cons h t b=>rw[any_cons,any_cons,b,h.1]
theorem KV.repl{kvs:List (κ×V)}{vs:List (κ×Value)}(r:KV kvs vs)(k:κ){y:V}(c:Zo y u) :
  KV (kvs.map λa=>if a.1=k then (a.1,y) else a) (vs.map λa=>if a.1=k then (a.1,u) else a):=by
 unfold KV at r ⊢
 induction r with
 | nil=>exact .nil
 | @cons p q j i h t f =>
  rw[map_cons,map_cons]
  refine .cons ?_ f
  obtain⟨b,g⟩:=h
  by_cases e:p.1=k
  ·rw[if_pos e,if_pos (b.symm.trans e)];exact⟨b,c⟩
  ·rw[if_neg e,if_neg (λz=>e (b.trans z))];exact⟨b,g⟩
theorem KV.put{kvs:List (κ×V)}{vs:List (κ×Value)}(r:KV kvs vs)(k:κ){y:V}(a:Zo y u):KV (ZU kvs k y) (stored vs k u):=by
 unfold ZU stored
 rw[r.any k]
 by_cases e:(vs.any λb=>decide (b.1=k))=true
 ·rw[if_pos e,if_pos e];exact r.repl k a
 ·rw[if_neg e,if_neg e];exact Paired.snoc r ⟨rfl,a⟩
theorem KV.length{kvs:List (κ×V)}{vs:List (κ×Value)}(r:KV kvs vs):kvs.length=vs.length:=Paired.length r
end
theorem WW{k:Key}(r:Zo (kV k) u):(ZY P w).is k u=true:=by
 cases k with
 | inl i=>obtain⟨t,e⟩:=(show ∃ t,u=Value.int i t from r);subst e;exact Lu P w i t
 | inr x=>obtain⟨t,e⟩:=(show ∃ t,u=Value.str x t from r);subst e;exact Lv P w x t
theorem PB{P:Program}{w:World}:∀ {ks:List Key} {us:List Value},Zm (ks.map kV) us->ItemsAre (ZY P w) ks us
 | [],_,r=>by rw[map_nil] at r;cases r;exact .nil
 | k::ks,_,r=>by
  rw[map_cons] at r
  cases r with
  | cons h t=>exact .cons (WW h) (PB t)
abbrev KT(H:Hp):List (List Key×V)->List (List Key×Addr×Value)->Prop:=Paired λp q=>p.1=q.1/\H q.2.1=some (.tup (p.1.map kV))/\Zo p.2 q.2.2
theorem KT.val{kvs:List (List Key×V)}{xs:List (List Key×Addr×Value)}(r:KT H kvs xs)(k:List Key):YJ (Yl kvs k) ((atKey xs k).map (·.2)):=by
 induction r with
 | nil=>exact True.intro
 | @cons p q j a h t g =>
  obtain⟨f,_,i⟩:=h
  by_cases e:p.1=k
  ·have c:q.1=k:=f.symm.trans e
   have b:atKey (q::a) k=some q.2:=by simp[atKey,find?_cons,c]
   rw[Uf e,b];exact i
  ·have c:¬ q.1=k:=λz=>e (f.trans z)
   have b:atKey (q::a) k=atKey a k:=by simp[atKey,find?_cons,c]
   rw[Ug e,b];exact g
theorem KT.repl{kvs:List (List Key×V)}{xs:List (List Key×Addr×Value)}(r:KT H kvs xs)(k:List Key){y:V}(f:Zo y u) :
  KT H (kvs.map λb=>if b.1=k then (b.1,y) else b) (xs.map (putAt k u)):=by
 induction r with
 | nil=>exact .nil
 | @cons p q m j h t g =>
  rw[map_cons,map_cons]
  refine .cons ?_ g
  obtain⟨a,c,i⟩:=h
  unfold putAt
  by_cases e:p.1=k
  ·rw[if_pos e,if_pos (a.symm.trans e)];exact⟨a,c,f⟩
  ·rw[if_neg e,if_neg (λz=>e (a.trans z))];exact⟨a,c,i⟩
theorem KT.put{kvs:List (List Key×V)}{xs:List (List Key×Addr×Value)}(r:KT H kvs xs)(k:List Key){y:V}(hb:H b=some (.tup (k.map kV)))(a:Zo y u) :
  KT H (ZU kvs k y) (storedH xs k b u):=by
 have e:(kvs.any λc=>decide (c.1=k))=(atKey xs k).isSome:=by
  rw[UU,(r.val k).isSome_eq,Option.isSome_map]
 unfold ZU storedH
 rw[e]
 by_cases q:(atKey xs k).isSome=true
 ·rw[if_pos q,if_pos q];exact r.repl k a
 ·rw[if_neg q,if_neg q];exact Paired.snoc r ⟨rfl,hb,a⟩
theorem KT.keeps{kvs:List (List Key×V)}{xs:List (List Key×Addr×Value)}(r:KT H kvs xs)(a:∀ b ys,H b=some (.tup ys)->H' b=some (.tup ys)):KT H' kvs xs :=
 Paired.mapP r λ_ _ z=>⟨z.1,a _ _ z.2.1,z.2.2⟩
theorem SQ{u:HO}(ok:HOk P w H h)(e:Rd H a u):ZB P w H h a u:=e.ok ok
theorem Vx{kvs:List (Key×V)}(ok:HOk P w H h)(e:Rd H a (.dK kvs)):kvs.length<=sizeLine/\(a == sysModules)=false/\∃ vs,KV kvs vs/\h.DictOf (ZY P w) a vs :=
 show ZB P w H h a (.dK kvs) from SQ ok e
theorem PC{kvs:List (Key×V)}(ok:HOk P w H h)(e:H a=some (.dK kvs)):kvs.length<=sizeLine/\(a == sysModules)=false/\∃ vs,KV kvs vs/\h.DictOf (ZY P w) a vs:=Vx ok (.inl e)
theorem WX{ks:List Key}(ok:HOk P w H h)(e:H a=some (.tup (ks.map kV))):(tupleKind (ZY P w)).is h ks a:=by
 obtain⟨_,b,r,o,g,f,⟨n,c⟩,_⟩:=(show ZB P w H h a (.tup (ks.map kV)) from ok a _ e)
 exact⟨o,b.toArray,n,g,f,c,by simpa using PB r⟩
theorem Vy{kvs:List (List Key×V)}(ok:HOk P w H h)(e:Rd H a (.dT kvs)):kvs.length<=sizeLine/\(a == sysModules)=false /\
  ∃ xs,KT H kvs xs/\h.DictOfH (tupleKind (ZY P w)) a xs:=by
 obtain⟨z,y,xs,r,o,es,u,s,n,j,i,g⟩:=(show ZB P w H h a (.dT kvs) from SQ ok e)
 refine⟨z,y,xs,r,o,es,u,s,n,j,i,λx b=>?_,g⟩
 have all:∀ {l:List (List Key×V)} {m:List (List Key×Addr×Value)},KT H l m->∀ x∈m,(tupleKind (ZY P w)).is h x.1 x.2.1:=by
  intro l m q
  induction q with
  | nil=>intro x b;exact nomatch b
  | @cons p q A v c t f =>
   intro x b
   rcases mem_cons.mp b with e|b
   ·subst e
    exact WX ok (by rw[<- c.1];exact c.2.1)
   ·exact f x b
 exact all r x b
theorem PD{kvs:List (List Key×V)}(ok:HOk P w H h)(e:H a=some (.dT kvs)):kvs.length<=sizeLine/\(a == sysModules)=false /\
  ∃ xs,KT H kvs xs/\h.DictOfH (tupleKind (ZY P w)) a xs:=Vy ok (.inl e)
def Uh(H:Hp)(a:Addr)(y:V)(r:Option V):Prop :=
 (∃ kvs k,Rd H a (.dK kvs)/\y=kV k/\r=Yl kvs k)\/∃ kvs k b,Rd H a (.dT kvs)/\y=.ref b/\H b=some (.tup (k.map kV))/\r=Yl kvs k
def YN(H:Hp)(a:Addr)(y v:V)(H':Hp):Prop :=
 (∃ kvs k,H a=some (.dK kvs)/\y=kV k/\kvs.length<sizeLine/\H'=upd H a (.dK (ZU kvs k v))) \/
 ∃ kvs k b,H a=some (.dT kvs)/\y=.ref b/\H b=some (.tup (k.map kV))/\kvs.length<sizeLine/\H'=upd H a (.dT (ZU kvs k v))
theorem YN.k{kvs:List (Key×V)}{k:Key}(e:H a=some (.dK kvs))(hl:kvs.length<sizeLine):YN H a (kV k) v (upd H a (.dK (ZU kvs k v))):=.inl ⟨kvs,k,e,rfl,hl,rfl⟩
theorem YN.t{kvs:List (List Key×V)}{k:List Key}(e:H a=some (.dT kvs))(c:H b=some (.tup (k.map kV)))(hl:kvs.length<sizeLine) :
  YN H a (.ref b) v (upd H a (.dT (ZU kvs k v))):=.inr ⟨kvs,k,b,e,rfl,c,hl,rfl⟩
section
variable{y:V}{r:Value}{o:Option V}
theorem Inv.big(I:Inv X pins σ H s):sysModules<s.heap.objs.size:=by
 have h:mainGlobals<s.heap.objs.size:=(I.mod.glob.keeps I.bk).lt
 exact Nat.lt_trans (by decide) h
theorem KD(q:A.units+1<cLine)(I:Inv X pins σ H s)(g:Uh H a y (some v))(n:Zo y u)(h:∀ f s',Inv X pins σ H s'->Zo v f->Q f s') :
  wpAny (model X.prog X.w) A (getItem (.ref a) u) Q E s:=by
 rcases g with⟨kvs,k,e,m,l⟩|⟨kvs,k,b,e,m,x,l⟩
 ·subst m
  obtain⟨z,w,vs,rel,dd⟩:=Vx I.hok e
  obtain⟨f,i,c⟩:=YJ.some_of (v:=v) (o:=valueAt vs k) (by rw[l];exact rel.val k)
  exact wpAny_getItem_of (WW n) dd.mapOf i (h f _ (I.tok _) c)
 ·subst m
  cases (show u=Value.ref b from n)
  obtain⟨z,w,xs,rel,dd⟩:=Vy I.hok e
  obtain⟨f,i,c⟩:=YJ.some_of (v:=v) (o:=(atKey xs k).map (·.2)) (by rw[l];exact rel.val k)
  obtain⟨p,r,j⟩:=Option.map_eq_some_iff.mp i
  refine wpAny_getItem_heap (tupleKind_room_in1 q) (WX I.hok x) dd r ?_
  rw[j]
  exact h f _ (I.tok _) c
theorem KE(j:A.units+1<cLine)(I:Inv X pins σ H s)(g:Uh H a y o)(i:Zo y u)(h:∀ s',Inv X pins σ H s'->Q (.bool (!o.isSome)) s') :
  wpAny (model X.prog X.w) A (compareOp .NotIn u (.ref a)) Q E s:=by
 rcases g with⟨kvs,k,e,f,l⟩|⟨kvs,k,b,e,f,m,l⟩
 ·subst f
  obtain⟨z,c,vs,rel,dd⟩:=Vx I.hok e
  refine wpAny_notIn_of (WW i) c dd.mapOf ?_
  rw[<- (rel.val k).isSome_eq,<- l]
  exact h _ (I.tok _)
 ·subst f
  cases (show u=Value.ref b from i)
  obtain⟨z,c,xs,rel,dd⟩:=Vy I.hok e
  refine wpAny_notIn_heap (tupleKind_room_in1 j) (WX I.hok m) c dd ?_
  have q:=(rel.val k).isSome_eq
  rw[Option.isSome_map] at q
  rw[<- q,<- l]
  exact h _ (I.tok _)
theorem Y0{c:HO}(I:Inv X pins σ H s)(mu:Mut (H a))(f:Heap.SameBut a s.heap h')(g:∃ q,h'.get? a=some q)(new:ZB X.prog X.w (upd H a c) h' a c) :
  Inv X pins σ (upd H a c) { s with heap:=h',toks:=t' } :=
 I.write (x:=a) (e:=a) mu (.inl rfl) (λb q h z=>(f.2 b h).trans z) g new
theorem PF{kvs:List (Key×V)}{vs:List (Key×Value)}(z:kvs.length<=sizeLine)(hd:(a == sysModules)=false)(rel:KV kvs vs)(dd:h'.DictOf (ZY P w) a vs) :
  ZB P w H' h' a (.dK kvs):=⟨z,hd,vs,rel,dd⟩
theorem SS{Q:Unit->Shared->Prop}(G:A.units+1<cLine)(I:Inv X pins σ H s)(g:YN H a y v H')(x:Zo y u)(B:Zo v r)(h:∀ s',Inv X pins σ H' s'->Q () s') :
  wpAny (model X.prog X.w) A (setItem (.ref a) u r) Q E s:=by
 rcases g with⟨kvs,k,e,p,l,w⟩|⟨kvs,k,b,e,p,F,l,w⟩
 ·subst p w
  obtain⟨z,n,vs,rel,dd⟩:=PC I.hok e
  have hz:vs.length<=sizeLine:=by rw[<- rel.length];exact z
  have m:(ZU kvs k v).length<=sizeLine:=by have:=Vw kvs k v;omega
  refine wpAny_setItem_pairs (hsz:=hz) (WW x) dd λh' f j=>h _ ?_
  have J:∃ q,h'.get? a=some q:=let ⟨q,_,_,i,_⟩:=f;⟨q,i⟩
  exact Y0 I (by rw[e];exact True.intro) j J (PF m n (rel.put k B) f)
 ·subst p w
  cases (show u=Value.ref b from x)
  obtain⟨z,n,xs,rel,dd⟩:=PD I.hok e
  have hz:xs.length<=sizeLine:=by rw[<- Paired.length rel];exact z
  have m:(ZU kvs k v).length<=sizeLine:=by have:=Vw kvs k v;omega
  refine wpAny_setItem_heap (hsz:=hz) (tupleKind_room_in1 G) (WX I.hok F) dd λh' f j=>h _ ?_
  obtain⟨q,es,O,i,N,M,L,_,K⟩:=f
  refine Y0 I (by rw[e];exact True.intro) j ⟨q,i⟩ ⟨m,n,_,(rel.put k F B).keeps λc P C=>?_,q,es,O,i,N,M,L,K⟩
  rw[Zn (Wb C e (λz=>nomatch z))]
  exact C
end
theorem KF{y:V}{o:Option V}(I:Inv X pins σ H s)(g:Uh H a y o):s.TypeIs (.ref a) "dict" := by
 rcases g with⟨kvs,k,e,_,_⟩|⟨kvs,k,b,e,_,_,_⟩
 ·obtain⟨_,_,vs,_,dd⟩:=Vx I.hok e
  exact dd.typeIs
 ·obtain⟨_,_,xs,_,dd⟩:=Vy I.hok e
  exact dd.typeIs
theorem PH(h:Heap)(hb:sysModules<h.objs.size):ZB P w H (h.push { cls:=.type "dict",data:=.dict #[] }) h.objs.size (.dK []) :=
 ⟨Nat.zero_le _,beq_eq_false_iff_ne.mpr (Ne.symm (Nat.ne_of_lt hb)),[],.nil,Heap.DictOf.new h⟩
def PJ:TE:=λ_ H Q=>∀ p,H p=none->Q (.ref p) (upd H p (.dK []))
theorem PK:PE X (.Dict [] [] pos) PJ:=λb s c H Q I h =>
 wpAny_Dict_empty ⟨.ref s.heap.objs.size,_,I.laid (a:=s.heap.objs.size) (o:=.dK []) (t':=s.toks) (λ_ _ q=>Heap.get?_push_of_some _ q) (Nat.le_refl _) (PH s.heap I.big),rfl,h _ (I.hok.fresh (Nat.le_refl _))⟩
theorem UV:∀ (names:List (Str×NameKind)) (n:Nat) (a:List (Str×Addr)),
  (∀ x y c,a.lookup x=some c->a.lookup y=some c->x=y)->(∀ x c,a.lookup x=some c->c<n) ->
  ∀ x y c,(cellsFrom n names a).lookup x=some c->(cellsFrom n names a).lookup y=some c->x=y
 | [],_,_,h,_=>h
 | (z,k)::r,n,a,h,hb=>by
  unfold cellsFrom
  split
  ·refine UV r (n+1) ((z,n)::a) ?_ ?_
   ·intro x y c b e
    rw[lookup_cons] at b e
    cases ex:x == z with
    | true =>
     rw[ex] at b
     have f:n=c:=Option.some.inj b
     cases ey:y == z with
     | true=>rw[beq_iff_eq.mp ex,beq_iff_eq.mp ey]
     | false =>
      rw[ey] at e
      have:=hb y c e
      rw[<- f] at this
      exact absurd this (Nat.lt_irrefl _)
    | false =>
     rw[ex] at b
     cases ey:y == z with
     | true =>
      rw[ey] at e
      have f:n=c:=Option.some.inj e
      have:=hb x c b
      rw[<- f] at this
      exact absurd this (Nat.lt_irrefl _)
     | false =>
      rw[ey] at e
      exact h x y c b e
   ·intro x c b
    rw[lookup_cons] at b
    cases ex:x == z with
    | true =>
     rw[ex] at b
     have f:n=c:=Option.some.inj b
     rw[<- f]
     exact Nat.lt_succ_self n
    | false =>
     rw[ex] at b
     exact Nat.lt_succ_of_lt (hb x c b)
  ·exact UV r n a h hb
theorem UW(x:Str)(lo:Nat):∀ (names:List (Str×NameKind)) (n:Nat) (a:List (Str×Addr)),lo<=n ->
  ((x,NameKind.cell)∈names\/∀ c,a.lookup x=some c->lo<=c)->∀ c,(cellsFrom n names a).lookup x=some c->lo<=c
 | [],_,_,_,h=>h.elim (λz=>nomatch z) id
 | (z,k)::r,n,a,hl,h=>by
  unfold cellsFrom
  split
  ·refine UW x lo r (n+1) ((z,n)::a) (by omega) ?_
   by_cases ex:x=z
   ·refine .inr λc b=>?_
    rw[lookup_cons,ex,beq_self_eq_true] at b
    have:n=c:=Option.some.inj b
    omega
   ·rcases h with h|h
    ·rcases mem_cons.mp h with e|h
     ·exact absurd (Prod.mk.inj e).1 ex
     ·exact .inl h
    ·refine .inr λc b=>h c ?_
     rw[lookup_cons,beq_false_of_ne ex] at b
     exact b
  ·rename_i hk
   refine UW x lo r n a hl ?_
   rcases h with h|h
   ·rcases mem_cons.mp h with e|h
    ·rw[<- (Prod.mk.inj e).2] at hk
     exact absurd rfl hk
    ·exact .inl h
   ·exact .inr h
theorem UX{x:Str}:∀ (names:List (Str×NameKind)) (n:Nat) (a:List (Str×Addr)),(∀ y∈names,y.1=x->y.2≠.cell)->(cellsFrom n names a).lookup x=a.lookup x
 | [],_,_,_=>rfl
 | (z,k)::r,n,a,h=>by
  unfold cellsFrom
  split
  ·rename_i hk
   rw[UX r (n+1) ((z,n)::a) λy b=>h y (mem_cons_of_mem _ b),lookup_cons]
   have:x≠z:=λe=>h (z,k) mem_cons_self e.symm (by simpa using hk)
   rw[beq_false_of_ne this]
  ·exact UX r n a λy b=>h y (mem_cons_of_mem _ b)
theorem UY(x:Str):∀ (names:List (Str×NameKind)) (n:Nat) (a:List (Str×Addr)) (c:Addr),(cellsFrom n names a).lookup x=some c->n<=c\/a.lookup x=some c
 | [],_,_,_,h=>.inr h
 | (z,k)::r,n,a,c,h=>by
  unfold cellsFrom at h
  split at h
  ·rcases UY x r (n+1) ((z,n)::a) c h with q|q
   ·exact .inl (by omega)
   ·rw[lookup_cons] at q
    cases ex:x == z with
    | true=>rw[ex] at q;have:n=c:=Option.some.inj q;exact .inl (by omega)
    | false=>rw[ex] at q;exact .inr q
  ·exact UY x r n a c h
theorem UZ:∀ (names:List (Str×NameKind)) (h:Heap) (a:List (Str×Addr)),(∀ x c,a.lookup x=some c->∃ v,h.IsCell c v) ->
  ∀ x c,(cellsFrom h.objs.size names a).lookup x=some c->∃ v,(pushCells h names).IsCell c v
 | [],_,_,h=>h
 | (z,k)::r,h,a,ha=>by
  unfold cellsFrom pushCells
  split
  ·have:=UZ r (h.push { cls:=.type "cell",data:=.cell none }) ((z,h.objs.size)::a) (λx c f=>by
    rw[lookup_cons] at f
    cases ex:x == z with
    | true =>
     rw[ex] at f
     cases f
     exact⟨none,_,Heap.get?_push_size _ rfl,rfl⟩
    | false =>
     rw[ex] at f
     obtain⟨v,q⟩:=ha x c f
     exact⟨v,q.keeps λb o e=>Heap.get?_push_of_some _ e⟩)
   rwa [Heap.size_push] at this
  ·exact UZ r h a ha
variable{env:Env}
theorem KG{globals:Addr}{cl:List (Str×Addr)}{Q:Env->Shared->Prop}
  (a:Q (newEnv scope s.heap.objs.size globals (cellsFrom (s.heap.objs.size+1) scope.names cl) qual none .none (some env) builtinsNs)
   { s with heap:=pushCells (s.heap.push { cls:=.type "dict",data:=.dict #[] }) scope.names }) :
  wpAny M A (newFunctionEnv scope globals cl [] qual none .none (some env)) Q E s:=by
 simp only[newFunctionEnv,Option.isSome_some,if_true]
 refine wpAny_bind (wpAny_alloc ?_)
 refine wpAny_bind (wpAny_layCells _ (λname kind cells=>by cases hkc:kind == NameKind.cell<;>simp[hkc]) _ _ _ _ ?_)
 rw[show ({ s with heap:=s.heap.push { cls:=.type "dict",data:=.dict #[] } }:Shared).heap.objs.size=s.heap.objs.size+1 from Heap.size_push ..]
 rw[forIn_nil]
 exact wpAny_bind (wpAny_pure (wpAny_pure a))
theorem ST{env:Env}:∀ (l:List (Str×NameKind)) (f:List (Str×Addr)),(∀ y∈l,y.2=.free->∃ c,env.cells.lookup y.1=some c) ->
  (∀ x c,f.lookup x=some c->env.cells.lookup x=some c) ->
  ∃ cl,(forIn l f λ(x:Str×NameKind) r=>if (x.2 == .free)=true then (do let a <- cellOf env x.1;pure (ForInStep.yield ((x.1,a)::r))) else pure (ForInStep.yield r):Sem (List (Str×Addr)))=pure cl /\
   (∀ x c,cl.lookup x=some c->env.cells.lookup x=some c)/\(∀ x,((∃ c,f.lookup x=some c)\/(x,NameKind.free)∈l)->∃ c,cl.lookup x=some c)
 | [],f,_,ha=>⟨f,by rw[forIn_nil],ha,λx b=>b.elim id λz=>nomatch z⟩
 | (z,k)::r,f,hl,ha=>by
  by_cases h:k=.free
  ·subst h
   obtain⟨c,p⟩:=hl (z,.free) mem_cons_self rfl
   obtain⟨cl,m,j,i⟩:=ST r ((z,c)::f) (λy g=>hl y (mem_cons_of_mem _ g)) (λx n b=>by
    rw[lookup_cons] at b
    cases ex:x == z with
    | true=>rw[ex] at b;cases b;rw[beq_iff_eq.mp ex];exact p
    | false=>rw[ex] at b;exact ha x n b)
   refine⟨cl,?_,j,λx b=>i x ?_⟩
   ·rw[forIn_cons]
    have e:cellOf env z=pure c:=by unfold cellOf;rw[show env.cells.lookup z=some c from p]
    simp only[beq_self_eq_true,if_true,e]
    exact m
   ·rcases b with⟨n,b⟩|b
    ·refine .inl ?_
     rw[lookup_cons]
     cases ex:x == z with
     | true=>exact⟨c,rfl⟩
     | false=>exact⟨n,b⟩
    ·rcases mem_cons.mp b with e|b
     ·refine .inl ⟨c,?_⟩
      rw[(Prod.mk.inj e).1,lookup_cons,beq_self_eq_true]
     ·exact .inr b
  ·obtain⟨cl,m,j,i⟩:=ST r f (λy g=>hl y (mem_cons_of_mem _ g)) ha
   refine⟨cl,?_,j,λx b=>i x ?_⟩
   ·rw[forIn_cons]
    have e:(k == NameKind.free)=false:=by simpa using h
    simp only[e,Bool.false_eq_true,if_false]
    exact m
   ·rcases b with b|b
    ·exact .inl b
    ·rcases mem_cons.mp b with e|b
     ·exact absurd (Prod.mk.inj e).2.symm h
     ·exact .inr b
theorem PL(h:∀ y∈scope.names,y.2=.free->∃ c,env.cells.lookup y.1=some c) :
  ∃ cl,closureFor scope env=pure cl/\(∀ x c,cl.lookup x=some c->env.cells.lookup x=some c)/\(∀ x,(x,NameKind.free)∈scope.names->∃ c,cl.lookup x=some c):=by
 obtain⟨cl,g,f,b⟩:=ST scope.names [] h (λx c e=>by simp at e)
 refine⟨cl,?_,f,λx a=>b x (.inr a)⟩
 unfold closureFor
 simp only[bind_pure]
 exact g
def U0(scope sc:Scope):Scope :=
 { scope with names:=scope.names.map λ(n,k)=>if (k == .free && sc.kind == .function && sc.names.lookup n == some .cell) then (n,.cell) else (n,k) }
theorem PM(scope:Scope)(env:Env):relabel scope env=U0 scope env.scope:=rfl
theorem PN{α β:Type}(g:Str->α->β)(x:Str):∀ l:List (Str×α),(l.map λ(n,k)=>(n,g n k)).lookup x=(l.lookup x).map (g x)
 | []=>rfl
 | (n,k)::r=>by
  rw[map_cons,lookup_cons,lookup_cons]
  cases e:x == n with
  | true=>rw[beq_iff_eq.mp e];rfl
  | false=>exact PN g x r
theorem PP(scope sc:Scope)(x:Str):(U0 scope sc).names.lookup x=(scope.names.lookup x).map λk=>if (k == .free && sc.kind == .function && sc.names.lookup x == some .cell) then NameKind.cell else k:=by
 have e:(U0 scope sc).names=scope.names.map λ(n,k)=>(n,if (k == .free && sc.kind == .function && sc.names.lookup n == some .cell) then NameKind.cell else k):=by
  unfold U0
  refine map_congr_left λy _=>?_
  obtain⟨n,k⟩:=y
  show (if _ then _ else _)=(n,if _ then _ else _)
  split<;>rfl
 rw[e]
 exact PN (λn k=>if (k == .free && sc.kind == .function && sc.names.lookup n == some .cell) then NameKind.cell else k) x scope.names
def Z4(N0:List Str)(sc0 scope:Scope):List Str->List (Option Nat)->Bool
 | [],[]=>true
 | x::N,none::c=>Z4 N0 sc0 scope N c
 | x::N,some j::c=>(N0[j]? == some x) && (sc0.names.lookup x == some .cell || sc0.names.lookup x == some .free) && (scope.names.lookup x == some .free) && (scope.names.all λy=>y.1 != x || y.2 != .cell) && Z4 N0 sc0 scope N c
 | _,_=>false
def Vz(N0:List Str)(sc0 scope:Scope)(N:List Str)(cap:List (Option Nat)):Bool :=
 (scope.kind == .function) && (scope.names.all λy=>y.2 != .local || scope.names.lookup y.1 == some .local) && (scope.names.all λy=>y.2 != .free || (sc0.names.lookup y.1 == some .cell || sc0.names.lookup y.1 == some .free)) &&
 (scope.names.all λy=>y.2 != .cell || scope.names.lookup y.1 == some .cell) && Z4 N0 sc0 scope N cap
def Yf(cap:List (Option Nat))(σ:St):St:=cap.map λo=>match o with
 | none=>none
 | some j=>(σ[j]?).join
theorem Ui{N0:List Str}{sc0 scope:Scope}:∀ {N:List Str} {cap:List (Option Nat)},Z4 N0 sc0 scope N cap=true->cap.length=N.length
 | [],[],_=>rfl
 | x::N,none::c,h=>by
  have:=Ui (N:=N) (cap:=c) h
  simp[this]
 | x::N,some j::c,h=>by
  simp only[Z4,Bool.and_eq_true] at h
  have:=Ui (N:=N) (cap:=c) h.2
  simp[this]
 | [],_::_,h=>by simp[Z4] at h
 | _::_,[],h=>by simp[Z4] at h
theorem U1{N0:List Str}{sc0 scope:Scope}:∀ {N:List Str} {cap:List (Option Nat)} {i j:Nat} {x:Str},Z4 N0 sc0 scope N cap=true->N[i]?=some x->cap[i]?=some (some j) ->
  N0[j]?=some x/\(sc0.names.lookup x=some .cell\/sc0.names.lookup x=some .free)/\scope.names.lookup x=some .free/\∀ y∈scope.names,y.1=x->y.2≠.cell
 | [],[],i,j,x,_,h,_=>by simp at h
 | y::N,none::c,0,j,x,_,_,h=>by simp at h
 | y::N,none::c,i+1,j,x,h,h1,h2=>U1 (N:=N) (cap:=c) (i:=i) h (by simpa using h1) (by simpa using h2)
 | y::N,some j'::c,0,j,x,h,h1,h2=>by
  simp at h1 h2
  subst h1 h2
  simp only[Z4,Bool.and_eq_true,Bool.or_eq_true,beq_iff_eq,List.all_eq_true,bne_iff_ne] at h
  exact⟨h.1.1.1.1,h.1.1.1.2,h.1.1.2,λz hz e=>(h.1.2 z hz).elim (λq=>absurd e q) id⟩
 | y::N,some j'::c,i+1,j,x,h,h1,h2=>by
  simp only[Z4,Bool.and_eq_true] at h
  exact U1 (N:=N) (cap:=c) (i:=i) h.2 (by simpa using h1) (by simpa using h2)
 | [],_::_,_,_,_,h,_,_=>by simp[Z4] at h
 | _::_,[],_,_,_,h,_,_=>by simp[Z4] at h
def cxC(X:Cx)(scope:Scope)(cl:List (Str×Addr))(N:List Str)(s:Shared)(H:Hp)(fp:List Addr):Cx where
 prog:=X.prog
 w:=X.w
 K:=X.K
 mg:=X.mg
 base:=X.base
 A:=X.A
 N:=N
 s₀:=s
 H₀:=H
 env:=compEnvC scope (cellsFrom (s.heap.objs.size+1+1) scope.names cl) (s.heap.objs.size+1) X.env
 outer:=X.stack
 stack:=X.stack
 ex:=fp
 fn:=λx=>scope.names.lookup x == some .cell
 calm:=X.calm
 pn:=[]
 xe:=λ_ _=>False
variable{sc0:Scope}{N0:List Str}
theorem KH{cl:List (Str×Addr)}{cap:List (Option Nat)}
  (I:Inv X pins σ H s) (K:∀ b∈fp,Yy X pins H b) (ho:∀ b∈fp,∃ o,s.heap.get? b=some o/\∀ v,o.data≠.cell v)
  (Q:X.env.scope=sc0) (hN:X.N=N0) (ok:Vz N0 sc0 scope N cap=true)
  (f:∀ x c,cl.lookup x=some c->X.env.cells.lookup x=some c) (E:∀ x,(x,NameKind.free)∈scope.names->∃ c,cl.lookup x=some c) :
  Inv (cxC X scope cl N s H fp) [] (Yf cap σ) (upd H s.heap.objs.size (.lst [])) { s with heap:=pushCells ((s.heap.push { cls:=.type "list",data:=.seq ([]:List Value).toArray }).push { cls:=.type "dict",data:=.dict #[] }) scope.names }:=by
 simp only[Vz,Bool.and_eq_true,beq_iff_eq] at ok
 obtain⟨⟨⟨⟨hk,W⟩,R⟩,S⟩,w⟩:=ok
 have L:(s.heap.push { cls:=.type "list",data:=.seq ([]:List Value).toArray }).objs.size=s.heap.objs.size+1:=Heap.size_push ..
 have e2:((s.heap.push { cls:=.type "list",data:=.seq ([]:List Value).toArray }).push { cls:=.type "dict",data:=.dict #[] }).objs.size=s.heap.objs.size+1+1:=by rw[Heap.size_push,L]
 have P:∀ b o,s.heap.get? b=some o->(pushCells ((s.heap.push { cls:=.type "list",data:=.seq ([]:List Value).toArray }).push { cls:=.type "dict",data:=.dict #[] }) scope.names).get? b=some o :=
  λb o e=>pushCells_keeps _ _ b o (Heap.get?_push_of_some _ (Heap.get?_push_of_some _ e))
 have kD:(pushCells ((s.heap.push { cls:=.type "list",data:=.seq ([]:List Value).toArray }).push { cls:=.type "dict",data:=.dict #[] }) scope.names).get? s.heap.objs.size=some { cls:=.type "list",data:=.seq ([]:List Value).toArray } :=
  pushCells_keeps _ _ _ _ (Heap.get?_push_of_some _ (Heap.get?_push_size _ rfl))
 have kC:(pushCells ((s.heap.push { cls:=.type "list",data:=.seq ([]:List Value).toArray }).push { cls:=.type "dict",data:=.dict #[] }) scope.names).Ns (s.heap.objs.size+1) λ_=>none:=by
  have q:=(Heap.Ns.new (s.heap.push { cls:=.type "list",data:=.seq ([]:List Value).toArray }) (.type "dict")).keeps (pushCells_keeps scope.names _)
  rw[L] at q
  exact q
 have hD:H s.heap.objs.size=none:=I.hok.fresh (Nat.le_refl _)
 have A:∀ x c,cl.lookup x=some c->c<s.heap.objs.size:=λx c e=>by
  obtain⟨v,q⟩:=I.cell x c (f x c e)
  exact q.lt
 have cells:∀ x c,(cellsFrom (s.heap.objs.size+1+1) scope.names cl).lookup x=some c->s.heap.objs.size+1+1<=c\/cl.lookup x=some c:=λx c e=>UY x _ _ _ c e
 have G:∀ b∈fp,b<s.heap.objs.size:=λb n=>by
  obtain⟨o,e,_⟩:=ho b n
  exact Heap.lt_size e
 refine⟨⟨I.ok.mod,hk,I.ok.glob,I.ok.blt,Nat.le_succ _,?_,?_,?_,I.ok.hd,I.ok.frames,.inl rfl,?_,I.bs,Nat.le_trans I.ok.bsz I.sz,?_,?_,I.stack,I.stkFree⟩,
  rfl,I.bare,?_,?_,?_,?_,?_,λp hp=>absurd (show p∈([]:List (Addr×Obj)) from hp) (by simp),?_,?_⟩
 ·-- inj
  refine UV scope.names _ cl (λx y c T a=>I.ok.inj x y c (f x c T) (f y c a)) λx c h=>?_
  exact Nat.lt_succ_of_lt (Nat.lt_succ_of_lt (A x c h))
 ·-- has
  intro x g
  have g:(relabel scope X.env).names.lookup x=some .cell\/(relabel scope X.env).names.lookup x=some .free:=g
  rw[PM,PP] at g
  have:scope.names.lookup x=some .cell\/scope.names.lookup x=some .free:=by
   cases e:scope.names.lookup x with
   | none=>rw[e] at g;simp at g
   | some k =>
    rw[e] at g
    cases k<;>simp at g<;>simp
  refine Option.isSome_iff_exists.mp (PySem.W.cellsFrom_some scope.names _ cl ?_)
  rcases this with h|h
  ·exact .inl h
  ·exact .inr (Option.isSome_iff_exists.mpr (E x (PySem.mem_of_lookup h)))
 ·-- cab
  intro x c g hc
  have g:scope.names.lookup x=some .cell:=by simpa [cxC] using g
  have:=UW x (s.heap.objs.size+1+1) scope.names (s.heap.objs.size+1+1) cl (Nat.le_refl _) (.inl (PySem.mem_of_lookup g)) c hc
  exact Nat.le_trans (Nat.le_succ _) (Nat.le_trans (Nat.le_succ _) this)
 ·-- exf
  intro b n
  have B:=G b n
  refine⟨Nat.ne_of_lt (Nat.lt_succ_of_lt B),λx c e=>?_⟩
  rcases cells x c e with q|q
  ·exact Nat.ne_of_gt (Nat.lt_of_lt_of_le (Nat.lt_succ_of_lt (Nat.lt_succ_of_lt B)) q)
  ·exact (K b n).2.2.2.2.1 x c (f x c q)
 ·-- noex
  intro b o e n
  rcases (K b n).2.2.2.1 with q|q
  ·exact I.ok.noex b o e q
  ·exact absurd (Nat.lt_of_lt_of_le (Heap.lt_size (I.ok.bs b o e).1) q) (Nat.lt_irrefl _)
 ·-- exfs
  intro b n z
  rcases mem_cons.mp (I.stkSub b z) with q|q
  ·exact (K b n).2.1 q
  ·exact (K b n).2.2.1 q
 ·-- base
  exact Un.laid P (Nat.le_refl _) hD
 ·-- loc
  refine⟨_,kC,λi x v T a h3=>?_⟩
  have a:(Yf cap σ)[i]?=some (some v):=a
  unfold Yf at a
  rw[getElem?_map] at a
  cases e:cap[i]? with
  | none=>rw[e] at a;cases a
  | some o =>
   rw[e] at a
   cases o with
   | none=>cases a
   | some j =>
    have a:some ((σ[j]?).join)=some (some v):=a
    have a:(σ[j]?).join=some v:=Option.some.inj a
    obtain⟨q1,J,U,q4⟩:=U1 w T e
    have Z:σ[j]?=some (some v):=by
     cases es:σ[j]? with
     | none=>rw[es] at a;cases a
     | some Y=>rw[es] at a;cases Y with
      | none=>cases a
      | some O=>have:some O=some v:=a;rw[this]
    obtain⟨m,hn,hl⟩:=I.loc
    have C:X.env.kindOf x=some .cell\/X.env.kindOf x=some .free:=by
     show X.env.scope.names.lookup x=_\/X.env.scope.names.lookup x=_
     rw[Q];exact J
    obtain⟨u,r,l⟩:=hl j x v (by rw[hN];exact q1) Z (C.elim (λz=>.inr (.inl z)) λz=>.inr (.inr z))
    refine⟨u,r,?_⟩
    rcases l with⟨z,_⟩|⟨_,c,L,z⟩
    ·rcases C with y|y<;>(rw[y] at z;cases z)
    ·obtain⟨M,F⟩:=E x (PySem.mem_of_lookup U)
     have ec:M=c:=by
      have:=f x M F
      rw[L] at this
      exact (Option.some.inj this).symm
     subst ec
     refine .inr ⟨?_,M,?_,z.keeps P⟩
     ·show (relabel scope X.env).names.lookup x=_\/(relabel scope X.env).names.lookup x=_
      rw[PM,PP,U]
      by_cases hz:(NameKind.free == NameKind.free && X.env.scope.kind == ScopeKind.function && X.env.scope.names.lookup x == some NameKind.cell)=true
      ·left;show some (if _ then _ else _)=_;rw[if_pos hz]
      ·right;show some (if _ then _ else _)=_;rw[if_neg hz]
     ·show (cellsFrom (s.heap.objs.size+1+1) scope.names cl).lookup x=some M
      rw[UX _ _ _ q4]
      exact F
 ·-- cell
  intro x c e
  have e:(cellsFrom (s.heap.objs.size+1+1) scope.names cl).lookup x=some c:=e
  rw[<- e2] at e
  exact UZ scope.names _ cl (λy d hy=>by
   obtain⟨v,q⟩:=I.cell y d (f y d hy)
   exact⟨v,q.keeps λb o z=>Heap.get?_push_of_some _ (Heap.get?_push_of_some _ z)⟩) x c e
 ·-- free
  show upd H s.heap.objs.size (.lst []) (s.heap.objs.size+1)=none
  rw[Zn (Nat.ne_of_gt (Nat.lt_succ_self _))]
  exact I.hok.fresh (Nat.le_succ _)
 ·-- freeC
  intro x c e
  rcases cells x c e with q|q
  ·have J:s.heap.objs.size<c:=Nat.lt_of_lt_of_le (Nat.lt_succ_of_lt (Nat.lt_succ_self _)) q
   rw[Zn (Nat.ne_of_gt J)]
   exact I.hok.fresh (Nat.le_of_lt J)
  ·have:=A x c q
   rw[Zn (Nat.ne_of_lt this)]
   exact I.freeC x c (f x c q)
 ·-- hok
  refine I.hok.laid P (Nat.le_refl _) ⟨Nat.zero_le _,[],0,.nil,kD⟩
 ·show (Yf cap σ).length=N.length
  unfold Yf
  rw[length_map,Ui w]
def Uj(X:Cx)(ifs:List Expr)(t:TT):Prop:=∀ (pins:List (Addr×Obj)) (s:Shared) (σ:St) (H:Hp) (Q:Bool->Hp->Prop),Inv X pins σ H s->t σ H Q ->
 wpAny (model X.prog X.w) X.A (forIn ifs true λc r=>if r=true then do let ok <- isTrue c X.env (eval c X.env);pure (ForInStep.yield ok) else pure (ForInStep.yield r)) (TP X pins σ Q) X.xe s
def WY:TT:=λ_ H Q=>Q true H
theorem YO:Uj X [] WY:=λ_ _ _ H _ I h=>wpAny_tests_nil ⟨H,I,h⟩
def PQ(J:It)(g:TG)(tt:TT)(te:TE)(D:Addr)(σ:St)(H:Hp)(Qe:Hp->Prop):Prop :=
 ∃ W:Nat->Nat->St->Hp->Prop,(∃ m,W 0 m σ H)/\∀ i m σ H,W i m σ H ->
  (J.stop i H/\Qe H)\/(J.go i H/\∃ N:St->Hp->Prop,(∀ σ' H',N σ' H'->∃ m',m' < m/\W (i+1) m' σ' H') /\
   ∀ x H',J.yld i H x H'->g x σ H' λσ2 H2=>tt σ2 H2 λb H3=>if b=true then te σ2 H3 λy H4=>∃ xs,H4 D=some (.lst xs)/\xs.length<sizeLine/\N σ2 (upd H4 D (.lst (xs++[y]))) else N σ2 H3)
variable{elt:Expr}{D:Addr}{J:It}{tt:TT}{ifs:List Expr}{R:Result->Shared->Prop}
theorem KI{tn:Nat->Heap->Prop}{Qe:Hp->Prop}
  (hc:X.calm=true) (q:∀ e s,X.xe e s->False) (hg:PG X tg g) (ht:Uj X ifs tt) (he:PE X elt te) (T:Turn X.prog X.w X.K tg J fp it tn)
  (A:∀ H',(∀ b∈fp,H' b=none)->∀ b∈fp,Yy X [] H' b) (I:Inv X [] σ H s) (st:tn 0 s.heap) (fr:∀ b∈fp,H b=none)
  (h:PQ J g tt te D σ H Qe) (hR:∀ a H' s',Inv X [] a H' s'->Qe H'->R (.ok .next) s') :
  codeAny (model X.prog X.w) X.A (.compLoop (.ListComp elt [⟨tg,iter,ifs,0⟩] scope pos) 0 (.ref it) (.ref D) X.env) R s:=by
 obtain⟨W,⟨m0,w0⟩,turn⟩:=h
 refine codeAny_loop rfl (λn s'=>∃ i a H',Inv X [] a H' s'/\tn i s'.heap/\(∀ b∈fp,H' b=none)/\W i n a H') (λn O hI=>?_) m0 ⟨0,σ,H,I,st,fr,w0⟩
 obtain⟨i,j,F,I3,K,L,w3⟩:=hI
 show wpAny _ X.A ((compTurn (.ListComp elt [⟨tg,iter,ifs,0⟩] scope pos) 0 (.ref it) (.ref D) X.env).onRaise (λx=>do noteFrame x X.env;theTreesLotGoes x)) _ _ O
 refine wpAny_noted ?_
 rw[compTurn_list]
 refine wpAny_bind (wpAny_standAt (wpAny_bind ?_))
 rcases turn i n j F w3 with⟨G,qn⟩|⟨go,N,hN,step⟩
 ·refine wpAny_mono (T.done X rfl rfl rfl hc i [] O j F (λ_ _=>False) I3 (A F L) K G) (λr Z w=>?_) (λ_ _ f=>f.elim)
  obtain⟨w,I4⟩:=w
  subst w
  exact wpAny_pure (hR j F Z I4 qn)
 ·refine wpAny_mono (T.item X rfl rfl rfl hc i [] O j F (λ_ _=>False) I3 (A F L) K go) (λr Z w=>?_) (λ_ _ f=>f.elim)
  obtain⟨u,w,h4⟩:=w
  subst w
  refine wpAny_bind (wpAny_mono h4 (λ_ Y h5=>?_) λ_ _ f=>f.elim)
  obtain⟨x,S,I5,r5,y5,v,P⟩:=h5
  have Q:=I5.pinned (A S P) (T.obj _ _ v)
  refine wpAny_bind (wpAny_mono (hg _ Y j S x u _ Q r5 (step x S y5)) (λ_ s6 h6=>?_) λe s f=>(q e s f).elim)
  obtain⟨p,H6,I6,q6⟩:=h6
  refine wpAny_bind (wpAny_mono (ht _ s6 p H6 _ I6 q6) (λok C h7=>?_) λe s f=>(q e s f).elim)
  obtain⟨B,E,q7⟩:=h7
  have again:∀ {C:Shared} {c:St} {B:Hp},Inv X ([]++Uc fp Y.heap) c B C->N c B->∃ m,m<n/\∃ i a H',Inv X [] a H' C/\tn i C.heap/\(∀ b∈fp,H' b=none)/\W i m a H':=λ{C c B} E n7=>by
   obtain⟨m',hm,w7⟩:=hN c B n7
   refine⟨m',hm,i+1,c,B,E.unpinned,T.keep _ _ _ v λb M o e=>(E.pin (b,o) (mem_append_right _ (mem_append_right _ (UP M e)))).1,λb M=>?_,w7⟩
   obtain⟨o,e,d⟩:=T.obj _ _ v b M
   exact (E.pin (b,o) (mem_append_right _ (mem_append_right _ (UP M e)))).2.1
  cases ok with
  | false=>exact wpAny_pure ⟨rfl,again E q7⟩
  | true =>
   refine wpAny_bind (wpAny_bind (wpAny_mono (he _ C p B _ E q7) (λy s8 h8=>wpAny_bind ?_) λe s f=>(q e s f).elim))
   obtain⟨U,H8,I8,r8,xs,hD,hz,n8⟩:=h8
   refine wpAny_mono (Xl (X:=X) _ s8 p H8 (.ref D) [U] (.ref D) [y] (λ_ H9=>N p H9) I8 rfl (.cons r8 .nil) ⟨D,xs,U,rfl,rfl,hD,hz,n8⟩) (λ_ s9 h9=>?_) λe s f=>(q e s f).elim
   obtain⟨_,H9,I9,_,n9⟩:=h9
   exact wpAny_pure (wpAny_pure ⟨rfl,again I9 n9⟩)
theorem KJ{e:St}{cl:List (Str×Addr)}(I:Inv X pins σ H s)(a:∀ b∈fp,Yy X pins H b)
  (J:Inv (cxC X scope cl N s H fp) pins' e H' s'):Inv X pins σ H' s' :=
 I.call' (ch:=fp) J.os J.base J.hok J.bare λb c=>⟨(a b c).2.2.2.1,(a b c).2.1,(a b c).2.2.2.2.1,(a b c).2.2.2.2.2⟩
def Xm(cap:List (Option Nat))(wi:TI)(g:TG)(tt:TT)(te:TE):TE:=λσ H Q=>wi σ H λJ H1=>∀ D,H1 D=none->PQ J g tt te D (Yf cap σ) (upd H1 D (.lst [])) λH2=>Q (.ref D) H2
theorem PU{cap:List (Option Nat)}{use:Option (Value->Sem Unit)}{Qv:Value->Shared->Prop}
      {Q:VK}
  (hc:X.calm=true) (B:X.env.scope=sc0) (hN:X.N=N0) (ok:Vz N0 sc0 scope N cap=true) (hi:PI X tg iter wi)
  (hg:∀ cl s H fp,PG (cxC X scope cl N s H fp) tg g) (ht:∀ cl s H fp,Uj (cxC X scope cl N s H fp) ifs tt) (he:∀ cl s H fp,PE (cxC X scope cl N s H fp) elt te) (W:∀ x,foldedSetIterable iter X.env x=pure x)
  (I:Inv X pins σ H s) (h:Xm cap wi g tt te σ H Q)
  (F:∀ (D C:Addr) (m:Str->Option Value) (H':Hp) (s':Shared),Inv X pins σ H' s'->s'.heap.Ns C m->H' C=none->C≠X.env.locals->X.s₀.heap.objs.size<=C->(∀ x c,X.env.cells.lookup x=some c->c≠C)->(∀ p∈X.pn++pins,p.1≠C)->Q (.ref D) H' ->
   compPost (model X.prog X.w) X.A X.xe use Qv (.ref D) C (.ok .next) s') :
  wpAny (model X.prog X.w) X.A (comprehension (.ListComp elt [⟨tg,iter,ifs,0⟩] scope pos) scope X.env pos' (newList []) false (eval iter X.env) use) Qv X.xe s:=by
 have A:=ok
 simp only[Vz,Bool.and_eq_true,beq_iff_eq,List.all_eq_true,Bool.or_eq_true,bne_iff_ne] at A
 obtain⟨⟨⟨⟨hk,E⟩,r⟩,Y⟩,hcap⟩:=A
 obtain⟨cl,L,K,G⟩:=PL (scope:=scope) (env:=X.env) (λy S e=>I.ok.has y.1 (by
  show X.env.scope.names.lookup y.1=_\/X.env.scope.names.lookup y.1=_
  rw[B]
  rcases r y S with z|z
  ·exact absurd e z
  ·exact z))
 refine wpAny_comprehension_free rfl W L hk (λy S e=>by
  rcases E y S with z|z
  ·exact absurd e z
  ·exact z) (wpAny_mono (hi pins s σ H _ I h) (λv s1 h1=>wpAny_mono h1 (λitv a h2=>?_) λ_ _ e=>e) λ_ _ e=>e)
 obtain⟨it,fp,tn,J,O,e,u,T,n,f2,q2⟩:=h2
 subst e
 refine wpAny_newObj_type (KG ?_)
 have P:=KH u f2 (T.obj _ _ n) B hN ok K G
 have eC:(a.heap.push { cls:=.type "list",data:=.seq ([]:List Value).toArray }).objs.size=a.heap.objs.size+1:=Heap.size_push ..
 show codeAny _ _ (.compStart (.ListComp elt [⟨tg,iter,ifs,0⟩] scope pos) 0 (.ref it) (.ref a.heap.objs.size)
  (compEnvC scope (cellsFrom ((a.heap.push { cls:=.type "list",data:=.seq ([]:List Value).toArray }).objs.size+1) scope.names cl) ((a.heap.push { cls:=.type "list",data:=.seq ([]:List Value).toArray }).objs.size) X.env))
  (compPost _ _ _ use Qv (.ref a.heap.objs.size) ((a.heap.push { cls:=.type "list",data:=.seq ([]:List Value).toArray }).objs.size)) _
 rw[eC]
 have Z:∀ H',(∀ b∈fp,H' b=none)->∀ b∈fp,Yy (cxC X scope cl N a O fp) [] H' b:=λH' hn b i =>
  ⟨hn b i,(P.ok.exf b i).1,P.ok.exfs b i,.inl i,(P.ok.exf b i).2,λp U=>absurd (show p∈([]:List (Addr×Obj)) from U) (by simp)⟩
 have M:∀ b∈fp,b<a.heap.objs.size:=λb i=>by
  obtain⟨o,e,_⟩:=T.obj _ _ n b i
  exact Heap.lt_size e
 have k1:∀ b o,a.heap.get? b=some o->(pushCells ((a.heap.push { cls:=.type "list",data:=.seq ([]:List Value).toArray }).push { cls:=.type "dict",data:=.dict #[] }) scope.names).get? b=some o :=
  λb o e=>pushCells_keeps _ _ b o (Heap.get?_push_of_some _ (Heap.get?_push_of_some _ e))
 have w:=T.keep 0 a.heap (pushCells ((a.heap.push { cls:=.type "list",data:=.seq ([]:List Value).toArray }).push { cls:=.type "dict",data:=.dict #[] }) scope.names) n λb _ o e=>k1 b o e
 have j:=KI (X:=cxC X scope cl N a O fp) (iter:=iter) (scope:=scope) (pos:=pos) (it:=it) (D:=a.heap.objs.size) (R:=compPost (model X.prog X.w) X.A X.xe use Qv (.ref a.heap.objs.size) (a.heap.objs.size+1)) hc (λ_ _ f=>f) (hg cl a O fp) (ht cl a O fp) (he cl a O fp) T Z P w
  (λb i=>by rw[Zn (Nat.ne_of_lt (M b i))];exact (f2 b i).1) (q2 _ (u.hok.fresh (Nat.le_refl _))) (λσ' H' s' J' q=>by
   obtain⟨m,hm,_⟩:=id J'.loc
   refine F _ _ m H' s' (KJ u f2 J') hm J'.free ?_ ?_ ?_ ?_ q
   ·exact Nat.ne_of_gt (Nat.lt_succ_of_lt u.lt)
   ·exact Nat.le_succ_of_le u.sz
   ·intro x c e
    obtain⟨v,q⟩:=u.cell x c e
    exact Nat.ne_of_lt (Nat.lt_succ_of_lt q.lt)
   ·intro p U
    exact Nat.ne_of_lt (Nat.lt_succ_of_lt (Heap.lt_size (u.pin p U).1)))
 exact codeAny_compStart_list j (T.self X.A 0 _ _ _ w j)
theorem Y1{cap:List (Option Nat)}
  (E:X.calm=true) (a:X.env.scope=sc0) (G:X.N=N0) (ok:Vz N0 sc0 scope N cap=true) (hi:PI X tg iter wi)
  (A:∀ cl s H fp,PG (cxC X scope cl N s H fp) tg g) (v:∀ cl s H fp,Uj (cxC X scope cl N s H fp) ifs tt) (B:∀ cl s H fp,PE (cxC X scope cl N s H fp) elt te) (c:∀ x,foldedSetIterable iter X.env x=pure x:=by intro _;rfl) :
  PE X (.ListComp elt [⟨tg,iter,ifs,0⟩] scope pos) (Xm cap wi g tt te):=by
 intro r s L H Q I h
 rw[eval_ListComp]
 refine PU E a G ok hi A v B c I h λD C m K u J y p n j i f q=>⟨m,y,λh' w=>?_⟩
 exact⟨.ref D,K,J.turned (t':=u.toks) (λb o F e=>(w.2 b F).trans e) p n (.inr j) i f,rfl,q⟩
theorem KK{cap:List (Option Nat)}{c:Pos}
  (E:X.N.Nodup) (y:X.N[i]?=some x) (M:X.env.scope.names.lookup x=some .local)
  (W:X.calm=true) (w:X.env.scope=sc0) (hN:X.N=N0) (ok:Vz N0 sc0 scope N cap=true) (hi:PI X tg iter wi)
  (T:∀ cl s H fp,PG (cxC X scope cl N s H fp) tg g) (P:∀ cl s H fp,Uj (cxC X scope cl N s H fp) ifs tt) (U:∀ cl s H fp,PE (cxC X scope cl N s H fp) elt te) (B:∀ x,foldedSetIterable iter X.env x=pure x:=by intro _;rfl)
  (u:swapsWith (.ListComp elt [⟨tg,iter,ifs,0⟩] scope pos) (some (.Name x pos')) c.line X.env=pure true:=by rfl) :
  PS X (.Assign [.Name x pos'] (.ListComp elt [⟨tg,iter,ifs,0⟩] scope pos) c) (Yc (Xm cap wi g tt te) (ZR i)):=by
 intro j s σ H D I h
 rw[exec_Assign_Name_used _ _ _ _ u]
 refine wpAny_bind (wpAny_standAt (wpAny_bind ?_))
 show wpAny _ X.A (do let _ <- comprehension (.ListComp elt [⟨tg,iter,ifs,0⟩] scope pos) scope X.env _ (newList []) false (eval iter X.env) (some (assign (.Name x pos') X.env))) _ _ s
 refine wpAny_bind (wpAny_mono (PU (use:=some (assign (.Name x pos') X.env)) (Qv:=λ_ r=>SP X j D .next r) W w hN ok hi T P U B I h λA C m H' r J S L p K n G q=>?_) (λ_ r R=>wpAny_pure (wpAny_pure R)) λ_ _ e=>e)
 show wpAny _ X.A (assign (.Name x pos') X.env (.ref A)) _ _ r
 refine wpAny_assign_Name (V7 (v:=.ref A) J E y (.inl M) rfl (λO J2 f=>?_) (.inr M))
 obtain⟨a,f,Z⟩:=f
 have F:C≠a:=by
  rcases Z with z|z
  ·rw[z];exact p
  ·exact λe=>n _ _ z e.symm
 refine⟨m,S.sameBut f F,λh' Q=>?_⟩
 exact⟨_,H',J2.turned (t':=O.toks) (λb o Y e=>(Q.2 b Y).trans e) L p (.inr K) n G,q⟩
structure FunD(K:W.Frag)(x qual:Str)(st:Stmt)(dV:Value)(f:Addr)(fd:FuncData):Prop where
 ex:∃ (oc:Value) (od:Option Addr) (kV doc pm:Value) (an:Option Addr) (cdv ct:Value) (osl:Array (Option Value)),
  fd=PySem.W.fnOf x qual (ZP st) (Zv st) (Zd st) dV kV doc pm an cdv ct/\K.lookup f=some ⟨oc,od,.func fd,osl⟩/\W.codeIn K cdv qual=true
 kp:W.keepIn K (.ref f)=true
theorem FunD.ok{f:Addr}{k:Nat}(F:FunD K x qual st dV f fd)(S:FnScope N ps (Zd st))(len:∀ vs H Q E,sp vs H Q E->vs.length=ps.length)
  (a:∀ (cdv:Value) (A:Around) (outer:List Env) (s:Shared) (H:Hp) (vs:List V) (Q:VK) (E:XK),Room k (A.deeper (envOfC qual (Zd st) s.heap.objs.size f cdv))->sp vs H Q E ->
   ∃ t,PSs (YM CX P w K mg base N qual (Zd st) f cdv A outer s H E).nox (Zv st) t/\t { nx:=λ_ H'=>Q .non H',rt:=Q } (start N vs) H):FnOk P w K mg base CX (k+1) f fd ps sp:=by
 obtain⟨p,n,kV,j,m,r,cdv,ct,e,rfl,g,c⟩:=F.ex
 refine SH g c S len λA outer s H vs Q E i b=>?_
 obtain⟨t,h,q⟩:=a cdv A outer s H vs Q E i b
 exact⟨t,h.nox,q⟩
structure Cal(P:Program)(w:World)(K:W.Frag)(mg:Str->Option Value)(base:Heap)(CX:CXT)(k:Nat)(x:Str)(ps:List Str)(dvs:List V)(sp:Sp):Prop where
 ex:∃ (f:Addr) (fd:FuncData) (ds:List Value),FnOk P w K mg base CX k f fd ps sp/\mg x=some (.ref f)/\W.keepIn K (.ref f)=true/\Wd K fd ps ds/\Zm dvs ds
structure Tx(K:W.Frag)(mg:Str->Option Value)(x:Str)(st:Stmt)(ps:List Str)(dvss:List (List V)):Prop where
 ex:∃ (dV:Value) (f:Addr) (fd:FuncData),FunD K x x st dV f fd/\mg x=some (.ref f)/\∀ dvs∈dvss,∃ ds,Wd K fd ps ds/\Zm dvs ds
theorem Cal.mono{P:Program}{w:World}{K:W.Frag}{mg:Str->Option Value}{base:Heap}{CX:CXT}{j k:Nat}{x:Str}{ps:List Str}{dvs:List V}{sp:Sp}(c:Cal P w K mg base CX j x ps dvs sp)(h:j<=k):Cal P w K mg base CX k x ps dvs sp :=
 let ⟨f,e,ds,b,a⟩:=c.ex
 ⟨f,e,ds,b.mono h,a⟩
variable{dvss:List (List V)}
theorem Tx.cal{k:Nat}(T:Tx K mg x st ps dvss)(S:FnScope N ps (Zd st))
  (len:∀ vs H Q E,sp vs H Q E->vs.length=ps.length)
  (a:∀ (f:Addr) (cdv:Value) (A:Around) (outer:List Env) (s:Shared) (H:Hp) (vs:List V) (Q:VK) (E:XK),Room k (A.deeper (envOfC x (Zd st) s.heap.objs.size f cdv))->sp vs H Q E ->
   ∃ t,PSs (YM CX P w K mg base N x (Zd st) f cdv A outer s H E).nox (Zv st) t/\t { nx:=λ_ H'=>Q .non H',rt:=Q } (start N vs) H) :
  ∀ dvs∈dvss,Cal P w K mg base CX (k+1) x ps dvs sp:=by
 obtain⟨n,f,g,F,m,b⟩:=T.ex
 intro dvs e
 obtain⟨ds,j,i⟩:=b dvs e
 exact⟨f,g,ds,F.ok S len (λcdv A outer s H vs Q E c h=>a f cdv A outer s H vs Q E c h),m,F.kp,j,i⟩
section
variable{k:Nat}{E:XK}{p:Pos}{t:TA}
theorem Zg(c:Cal X.prog X.w X.K X.mg X.base CX k x ps dvs sp)(h:Room k X.A)(i:Gl X x)(g:WU CX X E)(m:PA X (e::es) t)(b:(x == ("__debug__" : Str))=false:=by decide)
  (j:starEach (e::es) X.env=(false,eval e X.env)::starEach es X.env:=by rfl) (a:(backTo pos (starEach es X.env)).any (·.1)=false:=by rfl) :
  PE X (.Call (.Name x p) (e::es) [] pos) (WT sp dvs E t):=by
 obtain⟨f,v,ds,u,s,r,q,n⟩:=c.ex
 exact LV u h i s r q n g m b j a
end
def We(K:W.Frag):List V->Hp->VK->Prop:=λxs H Q=>∃ p ys,xs=[.ref p]/\(SqL K H p ys\/SqT K H p ys)/\Q (.int ys.length) H
def SU(K:W.Frag):List V->Hp->VK->Prop:=λxs H Q=>∃ p ys,xs=[.ref p]/\(SqL K H p ys\/SqT K H p ys)/\∀ l,H l=none->Q (.ref l) (upd H l (.lst ys))
def SV(K:W.Frag):List V->Hp->VK->Prop:=λxs H Q=>∃ p ys,xs=[.ref p]/\((SqL K H p ys/\∀ l,H l=none->Q (.ref l) (upd H l (.tup ys)))\/(SqT K H p ys/\Q (.ref p) H))
theorem KL:Z1 X (.builtin "len") (We X.K):=Kq
theorem KM:Z1 X (.type "list") (SU X.K):=Ks
theorem KO:Z1 X (.type "tuple") (SV X.K):=Kt
def XObj(ea:Addr)(c:Value)(d:Option Addr):Heap->Prop:=λh=>∃ o vs,h.get? ea=some o/\o.cls=c/\o.dict=d/\o.data=.fields vs
def hX(ea:Addr)(c:Value)(d:Option Addr):HO:=.ext (XObj ea c d)
def XDct(d:Addr)(fs:List (Str×V)):Heap->Prop:=λh=>∃ mA,h.Ns1 d mA/\(∀ f,YJ (fs.lookup f) (mA f))/\PySem.Within mA (fs.map (·.1))
def hXD(d:Addr)(fs:List (Str×V)):HO:=.ext (XDct d fs)
def Zx:Key->PyData
 | .inl i=>.int i
 | .inr x=>.str x
abbrev dJ:PyData:=.dict [(.none,.none)]
mutual
inductive Rep(K:W.Frag)(H:Hp):V->PyData->Prop
 | non:Rep K H .non .none
 | bl (b:Bool):Rep K H (.bl b) (.bool b)
 | int (i:Int):Rep K H (.int i) (.int i)
 | str (x:Str):Rep K H (.str x) (.str x)
 | lst {a:Addr} {xs:List V} {ds:List PyData}:SqL K H a xs->Reps K H xs ds->Rep K H (.ref a) (.list ds)
 | tup {a:Addr} {xs:List V} {ds:List PyData}:H a=some (.tup xs)->Reps K H xs ds->Rep K H (.ref a) (.tuple ds)
 | exc {ea C:Addr} {kvs:List (PyData×PyData)}:H ea=some (hX ea (.ref C) none)->kvs=[(.none,.int C)]->Rep K H (.ref ea) (.dict kvs)
 | excF {ea C a:Addr} {vs:List (Str×V)} {ds:List PyData} {kvs:List (PyData×PyData)}:H ea=some (hX ea (.ref C) (some a))->H a=some (hXD a vs)->Reps K H (vs.map Prod.snd) ds->kvs=(.none,.int C)::(vs.map λp=>PyData.str p.1).zip ds->Rep K H (.ref ea) (.dict kvs)
 | dK {a:Addr} {ks:List (Key×V)} {ds:List PyData} {kvs:List (PyData×PyData)}:Rd H a (.dK ks)->Reps K H (ks.map Prod.snd) ds->kvs=(ks.map λp=>Zx p.1).zip ds->Rep K H (.ref a) (.dict kvs)
 | dT {a:Addr} {ks:List (List Key×V)} {ds:List PyData} {kvs:List (PyData×PyData)}:Rd H a (.dT ks)->Reps K H (ks.map Prod.snd) ds->kvs=(ks.map λp=>PyData.tuple (p.1.map Zx)).zip ds->Rep K H (.ref a) (.dict kvs)
 | dN {a:Addr} {ks:List ((Key×List Key)×V)} {ds:List PyData} {kvs:List (PyData×PyData)}:ks≠[]->Rd H a (.dN ks)->Reps K H (ks.map Prod.snd) ds->kvs=(ks.map λp=>PyData.tuple [Zx p.1.1,.tuple (p.1.2.map Zx)]).zip ds->Rep K H (.ref a) (.dict kvs)
 | junk {v:V}:Rep K H v dJ
inductive Reps(K:W.Frag)(H:Hp):List V->List PyData->Prop
 | nil:Reps K H [] []
 | cons {x:V} {d:PyData} {xs:List V} {ds:List PyData}:Rep K H x d->Reps K H xs ds->Reps K H (x::xs) (d::ds)
end
theorem Rep.indF{M:V->PyData->Prop}{N:List V->List PyData->Prop}(h1:M .non .none)(h2:∀ b,M (.bl b) (.bool b))(m:∀ i,M (.int i) (.int i))(j:∀ x,M (.str x) (.str x))
  (g:∀ {a xs ds},SqL K H a xs->N xs ds->M (.ref a) (.list ds)) (f:∀ {a xs ds},H a=some (.tup xs)->N xs ds->M (.ref a) (.tuple ds)) (e:∀ v l,M v (.dict l)) (n:N [] []) (c:∀ {x d xs ds},M x d->N xs ds->N (x::xs) (d::ds)):(∀ {v d},Rep K H v d->M v d)/\∀ {vs ds},Reps K H vs ds->N vs ds :=
 ⟨λh=>Rep.rec (motive_1:=λv d _=>M v d) (motive_2:=λv d _=>N v d) h1 h2 m j (λh _=>g h) (λh _=>f h) (λ_ _=>e _ _) (λ_ _ _ _ _=>e _ _) (λ_ _ _ _=>e _ _) (λ_ _ _ _=>e _ _) (λ_ _ _ _ _=>e _ _) (e _ _) n (λ_ _=>c) h,
  λh=>Reps.rec (motive_1:=λv d _=>M v d) (motive_2:=λv d _=>N v d) h1 h2 m j (λh _=>g h) (λh _=>f h) (λ_ _=>e _ _) (λ_ _ _ _ _=>e _ _) (λ_ _ _ _=>e _ _) (λ_ _ _ _=>e _ _) (λ_ _ _ _ _=>e _ _) (e _ _) n (λ_ _=>c) h⟩
theorem Rep.reads(I:Inv X pins σ H s){d:PyData}(hn:d.canLay0=true)(h:Rep X.K H v d)(r:Zo v u):∃ as,Reads s.heap u d as:=by
 refine (Rep.indF (M:=λv d=>∀ u,d.canLay0=true->Zo v u->∃ as,Reads s.heap u d as) (N:=λvs ds=>∀ us,PyData.canLayAll0 ds=true->Zm vs us->∃ as,ReadsAll s.heap us ds as) ?_ ?_ ?_ ?_ ?_ ?_ ?_ ?_ ?_).1 h u hn r
 ·intro u _ r;cases (show u=Value.none from r);exact⟨_,Reads.none⟩
 ·intro b u _ r;cases (show u=Value.bool b from r);exact⟨_,Reads.bool b⟩
 ·intro i u _ r;obtain⟨t,q⟩:=(show ∃ t,u=Value.int i t from r);cases q;exact⟨_,Reads.int i t⟩
 ·intro x u _ r;obtain⟨t,q⟩:=(show ∃ t,u=Value.str x t from r);cases q;exact⟨_,Reads.str x t⟩
 ·intro a xs ds h j u hn r
  cases (show u=Value.ref a from r)
  obtain⟨g,f,p,_⟩:=I.list h
  obtain⟨as,q⟩:=j _ (by simpa [PyData.canLay0] using hn) f
  obtain⟨o,e,c,n,m⟩:=p.isList
  exact⟨_,Reads.list e c m (by simpa using q)⟩
 ·intro a xs ds h j u hn r
  cases (show u=Value.ref a from r)
  obtain⟨g,f,p,_⟩:=I.tuple (SqT.of h)
  obtain⟨as,q⟩:=j _ (by simpa [PyData.canLay0] using hn) f
  obtain⟨o,e,c,n,m⟩:=p
  exact⟨_,Reads.tuple e c m (by simpa using q)⟩
 ·intro v l u hn;simp[PyData.canLay0] at hn
 ·intro us _ q;cases q;exact⟨_,ReadsAll.nil⟩
 ·intro x d xs ds A y us hn q
  simp only[PyData.canLayAll0,Bool.and_eq_true] at hn
  cases q with
  | cons q w =>
   obtain⟨as,e⟩:=A _ hn.1 q
   obtain⟨bs,c⟩:=y _ hn.2 w
   exact⟨_,ReadsAll.cons e c⟩
theorem Zf.rd(e:Zf H H'){u:HO}(h:Rd H a u):Rd H' a u:=h.imp (λh=>e _ _ h) λ⟨o,h⟩=>⟨o,e _ _ h⟩
theorem Zf.tupS(e:Zf H H'){xs:List V}(h:SqT K H a xs):SqT K H' a xs:=by
 rcases h with (h|⟨o,h⟩)|h
 ·exact .inl (.inl (e _ _ h))
 ·exact .inl (.inr ⟨o,e _ _ h⟩)
 ·exact .inr h
def Low(G G':Hp):Prop:=∀ b o,G b=some o->(∀ ob c,o≠.frz ob (.own c))->G' b=some o
theorem Low.rd(e:Low H H'){u:HO}(n:∀ b c,u≠.frz b (.own c))(f:∀ c,u≠.own c)(h:Rd H a u):Rd H' a u:=h.imp (λh=>e _ _ h n) λ⟨o,h⟩=>⟨o,e _ _ h λb c z=>by cases z;exact f _ rfl⟩
theorem Low.seq(e:Low H H'){xs:List V}(h:SqL K H a xs):SqL K H' a xs:=by
 rcases h with (h|⟨o,h⟩)|h
 ·exact .inl (.inl (e _ _ h λ_ _ z=>by cases z))
 ·exact .inl (.inr ⟨o,e _ _ h λ_ _ z=>by cases z⟩)
 ·exact .inr h
theorem Rep.low(e:Low H H'){d:PyData}(h:Rep K H v d):Rep K H' v d :=
 Rep.rec (motive_1:=λv d _=>Rep K H' v d) (motive_2:=λv d _=>Reps K H' v d) .non .bl .int .str (λh _ i=>.lst (e.seq h) i) (λh _ i=>.tup (e _ _ h (by intro _ _ z;cases z)) i) (λh z=>.exc (e _ _ h (by intro _ _ z;cases z)) z) (λh k _ z i=>.excF (e _ _ h (by intro _ _ z;cases z)) (e _ _ k (by intro _ _ z;cases z)) i z)
  (λh _ z i=>.dK (e.rd (by intro _ _ z;cases z) (by intro _ z;cases z) h) i z) (λh _ z i=>.dT (e.rd (by intro _ _ z;cases z) (by intro _ z;cases z) h) i z) (λn h _ z i=>.dN n (e.rd (by intro _ _ z;cases z) (by intro _ z;cases z) h) i z) .junk .nil (λ_ _=>.cons) h
theorem Reps.imp(f:∀ {v d},Rep K H v d->Rep K H' v d):∀ {vs:List V} {ds:List PyData},Reps K H vs ds->Reps K H' vs ds
 | _,_,.nil=>.nil
 | _,_,.cons r rs=>.cons (f r) (Reps.imp f rs)
theorem Reps.low(e:Low H H'){vs:List V}{ds:List PyData}(h:Reps K H vs ds):Reps K H' vs ds:=Reps.imp (λr=>r.low e) h
theorem Rep.same(e:Zf H H'){d:PyData}(h:Rep K H v d):Rep K H' v d:=h.low λb o z _=>e b o z
theorem Reps.same(e:Zf H H'){vs:List V}{ds:List PyData}(h:Reps K H vs ds):Reps K H' vs ds:=Reps.imp (λr=>r.same e) h
theorem Reps.length:∀ {vs:List V} {ds:List PyData},Reps K H vs ds->vs.length=ds.length
 | _,_,.nil=>rfl
 | _,_,.cons _ rs=>by rw[length_cons,length_cons,Reps.length rs]
theorem Reps.get:∀ {vs:List V} {ds:List PyData} {i:Nat} {d:PyData},Reps K H vs ds->ds[i]?=some d->∃ v,vs[i]?=some v/\Rep K H v d
 | _,_,i,d,.nil,e=>by simp at e
 | _,_,0,d,.cons r _,e=>by simp at e;subst e;exact⟨_,rfl,r⟩
 | _,_,i+1,d,.cons _ rs,e=>by
  obtain⟨v,b,a⟩:=Reps.get (i:=i) rs (by simpa using e)
  exact⟨v,by simpa using b,a⟩
theorem Reps.append:∀ {vs a:List V} {ds es:List PyData},Reps K H vs ds->Reps K H a es->Reps K H (vs++a) (ds++es)
 | _,_,_,_,.nil,h=>h
 | _,_,_,_,.cons r rs,h=>.cons r (Reps.append rs h)
theorem Reps.ints(ns:List Int):Reps K H (ns.map V.int) (ns.map PyData.int):=by
 induction ns with
 | nil=>exact .nil
 | cons n ns a=>exact .cons (.int n) a
theorem YQ{p:Addr}{o:HO}(h:H p=none):Zf H (upd H p o):=λb u e=>by rw[Zn (Z5 e h)];exact e
def dOk(d:PyData):Prop:=SeqAt.shaped d=true
def VA(K:W.Frag):R2:=λx y H Q=>∃ d e,Rep K H x d/\Rep K H y e/\dOk d/\dOk e/\Q (.bl (PyData.eqv d e)) H
def WZ(K:W.Frag):R2:=λx y H Q=>∃ d e,Rep K H x d/\Rep K H y e/\dOk d/\dOk e/\Q (.bl (!PyData.eqv d e)) H
theorem KP(m:X.A.units+64<cLine):OpR X (compareOp .Eq) (VA X.K):=by
 intro a s r H x y v u Q I g f h
 obtain⟨d,e,p,n,c,b,q⟩:=h
 obtain⟨as,j⟩:=Rep.reads I (SeqAt.canLay_of_shaped c) p g
 obtain⟨bs,i⟩:=Rep.reads I (SeqAt.canLay_of_shaped b) n f
 exact eq_dataH j i c b m ⟨.bl _,H,I,rfl,q⟩
theorem KQ(m:X.A.units+64<cLine):OpR X (compareOp .NotEq) (WZ X.K):=by
 intro a s r H x y v u Q I g f h
 obtain⟨d,e,p,n,c,b,q⟩:=h
 obtain⟨as,j⟩:=Rep.reads I (SeqAt.canLay_of_shaped c) p g
 obtain⟨bs,i⟩:=Rep.reads I (SeqAt.canLay_of_shaped b) n f
 exact ne_dataH j i c b m ⟨.bl _,H,I,rfl,q⟩
structure Enc{α:Type}(f:α->PyData)(n:Nat):Prop where
 eqv:∀ a b,PyData.eqv (f a) (f b)=true↔a=b
 lay:∀ a,(f a).canLay0=true
 dep:∀ a,(f a).depth<=n
variable{f:α->PyData}
theorem Enc.ok(E:Enc f n)(hn:n<=32)(a:α):dOk (f a):=by
 unfold dOk SeqAt.shaped
 rw[E.lay a,Bool.true_and]
 exact decide_eq_true (Nat.le_trans (E.dep a) (Nat.le_trans hn (by decide)))
theorem Enc.int:Enc PyData.int 0:=⟨λa b=>by simp[PyData.eqv],λ_=>by simp[PyData.canLay0],λ_=>by simp[PyData.depth]⟩
theorem PV{α:Type}{f:α->PyData}(h:∀ a b,PyData.eqv (f a) (f b)=true↔a=b):∀ xs ys:List α,PyData.eqvAll (xs.map f) (ys.map f)=true↔xs=ys
 | [],[]=>by simp[PyData.eqvAll]
 | [],_::_=>by simp[PyData.eqvAll]
 | _::_,[]=>by simp[PyData.eqvAll]
 | x::xs,y::ys=>by simp[PyData.eqvAll,h x y,PV h xs ys]
theorem PY{α:Type}{f:α->PyData}(h:∀ a,(f a).canLay0=true):∀ xs:List α,PyData.canLayAll0 (xs.map f)=true
 | []=>rfl
 | x::xs=>by simp[PyData.canLayAll0,h x,PY h xs]
theorem PZ{α:Type}{f:α->PyData}{n:Nat}(h:∀ a,(f a).depth<=n):∀ xs:List α,PyData.depthAll (xs.map f)<=n
 | []=>Nat.zero_le _
 | x::xs=>by
  have c:=h x
  have b:=PZ h xs
  simp only[map_cons,PyData.depthAll]
  omega
theorem Enc.tuple{α:Type}{f:α->PyData}{n:Nat}(E:Enc f n):Enc (λxs:List α=>PyData.tuple (xs.map f)) (n+1) :=
 ⟨λa b=>by simp only[PyData.eqv];exact PV E.eqv a b,λa=>by simp only[PyData.canLay0];exact PY E.lay a,λa=>by simp only[PyData.depth];have:=PZ E.dep a;omega⟩
variable{β:Type}
theorem Enc.pair{g:β->PyData}(E:Enc f n)(G:Enc g n):Enc (λp:α×β=>PyData.tuple [f p.1,g p.2]) (n+1) :=
 ⟨λa b=>by
  obtain⟨m,j⟩:=a
  obtain⟨i,h⟩:=b
  simp[PyData.eqv,PyData.eqvAll,E.eqv,G.eqv],λa=>by simp[PyData.canLay0,PyData.canLayAll0,E.lay,G.lay],λa=>by
  have e:=E.dep a.1
  have c:=G.dep a.2
  simp only[PyData.depth,PyData.depthAll]
  omega⟩
theorem Enc.dec[DecidableEq α](E:Enc f n)(a b:α):PyData.eqv (f a) (f b)=decide (a=b):=by
 by_cases h:a=b
 ·rw[decide_eq_true h];exact (E.eqv a b).mpr h
 ·rw[decide_eq_false h];exact Bool.eq_false_iff.mpr λz=>h ((E.eqv a b).mp z)
theorem VB{i:Int}(a:∃ t,X.mg x=some (.int i t))(b:Gl X x)(hd:(x == ("__debug__" : Str))=false:=by decide):PE X (.Name x pos) (tC (.int i)):=by
 obtain⟨t,h⟩:=a
 exact LD b h ⟨t,rfl⟩ hd
section
variable{Q:VK}{i j:Int}
theorem KR(h:Q (.bl (decide (i=j))) H):rEq (.int i) (.int j) H Q:=⟨rfl,by have e:decide (V.int i=V.int j)=decide (i=j):=by { by_cases z:i=j<;>simp[z] };rw[e];exact h⟩
theorem KS(h:Q (.bl (!decide (i=j))) H):rNe (.int i) (.int j) H Q:=⟨rfl,by have e:decide (V.int i=V.int j)=decide (i=j):=by { by_cases z:i=j<;>simp[z] };rw[e];exact h⟩
theorem SW{xs:List V}{P:Prop}(h:H a=some (.lst xs))(q:P):tyV K "list" (.ref a) H/\P:=⟨.inl ⟨rfl,xs,SqL.of h⟩,q⟩
end
variable{sl:Array (Option Value)}
theorem KU{f:Addr}{kV ct:Value}(X:K.In h)(G:h.Ns mainGlobals mg)
  (a:W.nsIn K mainGlobals x=some (some (.ref f))) (l:K.lookup f=some ⟨oc,od,.func (PySem.W.fnOf x x (ZP st) (Zv st) (Zd st) .none kV doc pm an cd ct),sl⟩)
  (c:W.codeIn K cd x=true) (k:W.keepIn K (.ref f)=true)
  (hb:∀ (us:List Value),us.length=ps.length->bindArgs (PySem.W.fnOf x x (ZP st) (Zv st) (Zd st) .none kV doc pm an cd ct) ⟨us,[]⟩=pure (ps.zip us)):Tx K mg x st ps [[]] :=
 ⟨.none,f,_,⟨⟨oc,od,kV,doc,pm,an,cd,ct,sl,rfl,l,c⟩,k⟩,PySem.W.mg_of X G a,λb g=>by
  have e:b=[]:=by simpa using g
  subst e
  exact⟨[],.all hb,.nil⟩⟩
theorem U2{f b:Addr}{kV ct p:Value}{m:Option Addr}{j:Array (Option Value)}{i:Int}{tk:Tok}(X:K.In h)(G:h.Ns mainGlobals mg)
  (a:W.nsIn K mainGlobals x=some (some (.ref f))) (l:K.lookup f=some ⟨oc,od,.func (PySem.W.fnOf x x (ZP st) (Zv st) (Zd st) (.ref b) kV doc pm an cd ct),sl⟩)
  (d:K.lookup b=some ⟨p,m,.seq #[.int i tk] n,j⟩) (c:W.codeIn K cd x=true) (k:W.keepIn K (.ref f)=true)
  (hb:∀ (s:Shared) (us:List Value),K.In s.heap->us.length=ps.length->BindsTo s (PySem.W.fnOf x x (ZP st) (Zv st) (Zd st) (.ref b) kV doc pm an cd ct) ⟨us,[]⟩ (ps.zip us))
  (r:∀ (s:Shared) (us:List Value),K.In s.heap->us.length+1=ps.length->BindsTo s (PySem.W.fnOf x x (ZP st) (Zv st) (Zd st) (.ref b) kV doc pm an cd ct) ⟨us,[]⟩ (ps.zip (us++[.int i tk]))):Tx K mg x st ps [[],[.int i]] :=
 ⟨.ref b,f,_,⟨⟨oc,od,kV,doc,pm,an,cd,ct,sl,rfl,l,c⟩,k⟩,PySem.W.mg_of X G a,λu q=>by
  rcases mem_cons.mp q with e|q
  ·subst e
   exact⟨[],λs us v g=>by rw[append_nil] at g ⊢;exact hb s us v g,.nil⟩
  ·have e:u=[.int i]:=by simpa using q
   subst e
   exact⟨[.int i tk],λs us v g=>r s us v (by simpa using g),.cons ⟨tk,rfl⟩ .nil⟩⟩
theorem VC{i:Int}{t:Tok}(X:K.In h)(G:h.Ns mainGlobals mg)(a:W.nsIn K mainGlobals x=some (some (.int i t))):∃ t,mg x=some (.int i t):=⟨t,PySem.W.mg_of X G a⟩
theorem KW[DecidableEq α]{x y:V}{a b:α}{Q:VK}(E:Enc f n)(h1:Rep K H x (f a))(h2:Rep K H y (f b))(q:Q (.bl (decide (a=b))) H)(hn:n<=32:=by decide):VA K x y H Q :=
 ⟨_,_,h1,h2,E.ok hn a,E.ok hn b,by rw[E.dec];exact q⟩
theorem KY[DecidableEq α]{x y:V}{a b:α}{Q:VK}(E:Enc f n)(h1:Rep K H x (f a))(h2:Rep K H y (f b))(q:Q (.bl (!decide (a=b))) H)(hn:n<=32:=by decide):WZ K x y H Q :=
 ⟨_,_,h1,h2,E.ok hn a,E.ok hn b,by rw[E.dec];exact q⟩
theorem SY{c A:Prop}[Decidable c](a:c)(h:A):if decide c=true then A else B:=by
 rw[decide_eq_true a]
 exact iteT h
theorem Y2{c A:Prop}[Decidable c](a:¬ c)(h:B):if decide c=true then A else B:=by
 rw[decide_eq_false a]
 exact SN h
theorem Rep.ints{K:W.Frag}{H:Hp}{a:Addr}{ns:List Int}(h:SqL K H a (ns.map V.int)):Rep K H (.ref a) (PyData.list (ns.map PyData.int)):=.lst h (Reps.ints ns)
variable{ds:List PyData}
section
variable{x:V}{Q:VK}{k i:Int}{d:PyData}
theorem Rep.int_inv(h:Rep K H v (.int i)):v=.int i:=by cases h;rfl
theorem Rep.list_inv(h:Rep K H v (.list ds)):∃ a xs,v=.ref a/\SqL K H a xs/\Reps K H xs ds:=by
 cases h with
 | lst h r=>exact⟨_,_,rfl,h,r⟩
theorem Rep.tuple_inv(h:Rep K H v (.tuple ds)):∃ a xs,v=.ref a/\SqT K H a xs/\Reps K H xs ds:=by
 cases h with
 | tup h r=>exact⟨_,_,rfl,SqT.of h,r⟩
theorem Rep.tuple_at(h:Rep K H v (.tuple ds)):∃ a xs,v=.ref a/\H a=some (.tup xs)/\Reps K H xs ds:=by
 cases h with
 | tup h r=>exact⟨_,_,rfl,h,r⟩
theorem U3{xs:List α}{y:α}(a:0<=k)(h:xs[k.toNat]?=some y):atI xs k=some y:=by
 obtain⟨j,rfl⟩:∃ j:Nat,k=j:=⟨k.toNat,by omega⟩
 exact Vv (by simpa using h)
theorem KZ(h:Rep K H x (.list ds))(q:Q (.int ds.length) H):We K [x] H Q:=by
 obtain⟨a,xs,rfl,c,b⟩:=h.list_inv
 exact⟨a,xs,rfl,.inl c,by rw[b.length];exact q⟩
theorem K0(h:Rep K H x (.tuple ds))(q:Q (.int ds.length) H):We K [x] H Q:=by
 obtain⟨a,xs,rfl,c,b⟩:=h.tuple_inv
 exact⟨a,xs,rfl,.inr c,by rw[b.length];exact q⟩
mutual
def ZE:PyData->Bool
 | .none=>true
 | .bool _=>true
 | .int _=>true
 | .str _=>true
 | .list _=>false
 | .tuple ds=>noLsts ds
 | .dict _=>false
def noLsts:List PyData->Bool
 | []=>true
 | d::ds=>ZE d && noLsts ds
end
theorem Xn:∀ ns:List Int,noLsts (ns.map PyData.int)=true
 | []=>rfl
 | n::ns=>by simp[noLsts,ZE,Xn ns]
theorem XR{α:Type}{f:α->PyData}(h:∀ a,ZE (f a)=true):∀ xs:List α,noLsts (xs.map f)=true
 | []=>rfl
 | x::xs=>by simp[noLsts,h x,XR h xs]
theorem Zf.updF{o:HO}(s:Zf H H')(a:H D=none):Zf H (upd H' D o):=λb u e=>by rw[Zn (Z5 e a)];exact s b u e
def dI(ns:List Int):PyData:=.list (ns.map .int)
def tI(ns:List Int):PyData:=.tuple (ns.map .int)
def P0(rows:List (List Int)):PyData:=.list (rows.map dI)
end
def lig(b:Int):Nat->Int->List Int
 | 0,_=>[]
 | f+1,n=>if 0<n then (n%b)::lig b f (n / b) else []
theorem U4{b n:Int}(hb:2<=b)(a:b<=5)(hn:0<n):0<=n / b/\n / b<n/\2*(n / b)<=n:=by
 have:b=2\/b=3\/b=4\/b=5:=by omega
 rcases this with rfl|rfl|rfl|rfl<;>omega
theorem P1{b:Int}(hb:2<=b)(a:b<=5):∀ (f g:Nat) (n:Int),n.toNat<=f->n.toNat<=g->lig b f n=lig b g n
 | 0,0,_,_,_=>rfl
 | 0,g+1,n,h,_=>by
  have:¬ 0<n:=by omega
  simp only[lig,if_neg this]
 | f+1,0,n,_,h=>by
  have:¬ 0<n:=by omega
  simp only[lig,if_neg this]
 | f+1,g+1,n,h1,h2=>by
  by_cases h:0<n
  ·simp only[lig,if_pos h]
   have:=U4 hb a h
   rw[P1 hb a f g (n / b) (by omega) (by omega)]
  ·simp only[lig,if_neg h]
def dig(b n:Int):List Int:=lig b n.toNat n
theorem U5{b n:Int}(hb:2<=b)(a:b<=5)(h:0<n):dig b n=n%b::dig b (n / b):=by
 unfold dig
 obtain⟨k,c⟩:∃ k,n.toNat=k+1:=⟨n.toNat-1,by omega⟩
 have:=U4 hb a h
 rw[c,lig,if_pos h,P1 hb a k (n / b).toNat (n / b) (by omega) (Nat.le_refl _)]
theorem Wf{b n:Int}(h:¬ 0<n):dig b n=[]:=by
 unfold dig
 have:n.toNat=0:=by omega
 rw[this,lig]
def figs(b n:Int):List Int:=(dig b n).reverse
def num(b:Int)(ds:List Int):Int:=ds.foldl (λa d=>a*b+d) 0
theorem VD(b:Int)(ds:List Int)(d:Int):num b (ds++[d])=num b ds*b+d:=by
 unfold num
 rw[foldl_append]
 rfl
def Lig(b n:Int)(ds:List Int)(r:Int):Prop:=0<=r/\ds++dig b r=dig b n/\∃ k,r.toNat<2 ^ k/\ds.length+k=900
theorem Lig.start{b n:Int}(a:0<=n)(h1:n.toNat<2 ^ 900):Lig b n [] n:=⟨a,rfl,900,h1,rfl⟩
theorem Lig.step{b n r:Int}{ds:List Int}(hb:2<=b)(a:b<=5)(L:Lig b n ds r)(h:0<r):Lig b n (ds++[r%b]) (r / b)/\ds.length<900/\(r / b).toNat<r.toNat:=by
 obtain⟨i,g,k,c,e⟩:=L
 have f:=U4 hb a h
 match k,c,e with
 | 0,c,_=>simp at c;omega
 | k+1,c,e =>
  rw[Nat.pow_succ] at c
  refine⟨⟨f.1,?_,k,by omega,by simp;omega⟩,by omega,by omega⟩
  rw[List.append_assoc,<- g,U5 hb a h]
  rfl
theorem Lig.done{b n r:Int}{ds:List Int}(L:Lig b n ds r)(h:¬ 0<r):ds=dig b n/\ds.length<=900:=by
 obtain⟨f,a,k,e,c⟩:=L
 rw[Wf h,append_nil] at a
 exact⟨a,by omega⟩
theorem P2{b n:Int}(hb:2<=b)(a:b<=5):∀ (k:Nat) (n:Int),n.toNat<2 ^ k->(dig b n).length<=k
 | 0,n,h=>by
  rw[Wf (by simp at h;omega)]
  exact Nat.le_refl _
 | k+1,n,h=>by
  by_cases c:0<n
  ·rw[U5 hb a c,length_cons]
   have e:=U4 hb a c
   rw[Nat.pow_succ] at h
   have:=P2 (n:=n) hb a k (n / b) (by omega)
   omega
  ·rw[Wf c]
   exact Nat.zero_le _
section
theorem P3(h:X.K=K):Z1 X (.type "list") (SU K):=h▸KM
theorem Y3(h:X.K=K):Z1 X (.type "tuple") (SV K):=h▸KO
theorem K1(h:X.K=K):OpR X (binaryOp .Add) (UQ K):=h▸Ke
theorem K2(h:X.K=K)(a:X.A.units+64<cLine):OpR X (compareOp .Eq) (VA K):=h▸KP a
theorem K3(h:X.K=K)(a:X.A.units+64<cLine):OpR X (compareOp .NotEq) (WZ K):=h▸KQ a
theorem U6{k:Nat}{t:TGs}(h:X.K=K)(c:X.calm=true)(b:PGs X es t)(hn:(assignEach es X.env).length=n:=by rfl)(a:(assignEach es X.env).findIdx? (·.1)=none:=by rfl):PG X (.Tuple es k pos) (Sz K n t):=h▸LG c b hn a
variable{o:Expr}{t:TA}{id:String}{r:V->List V->Hp->VK->Prop}
theorem K4(h:X.K=K)(pa:PlainAttrs T)(slot:Slot T name id)(c:typeOf (.builtin id)=pure (.type "method_descriptor"))(f:MtR X id r)(e:PE X o to)
  (b:attributeBase o name X.env (eval o X.env)=eval o X.env:=by rfl) (a:(apos.endLine == cpos.line)=true:=by rfl):PE X (.Call (.Attribute o name apos) [] [] cpos) (US K T r to):=h▸Ku pa slot c f e b a
theorem Y4(h:X.K=K)(pa:PlainAttrs T)(slot:Slot T name id)(g:typeOf (.builtin id)=pure (.type "method_descriptor"))(m:MtR X id r)(j:PE X o to)(n:PA X (e::es) t)
  (c:attributeBase o name X.env (eval o X.env)=eval o X.env:=by rfl)
  (f:((backTo cpos (starEach (e::es) X.env)).all (λx=>!x.1) && (backToKw cpos (keywordEach [] X.env)).all (λx=>x.1.isSome)
   && decide ((e::es).length+([]:List Keyword).length+(if ([]:List Keyword).isEmpty then 0 else 1)<30))=true:=by rfl)
  (b:(apos.endLine == cpos.line)=true:=by rfl) (i:starEach (e::es) X.env=(false,eval e X.env)::starEach es X.env:=by rfl) (a:(backTo cpos (starEach es X.env)).any (·.1)=false:=by rfl) :
  PE X (.Call (.Attribute o name apos) (e::es) [] cpos) (tBM K T r to t):=h▸Kv pa slot g m j n c f b i a
end
def Ite(K:W.Frag)(a:Addr):It :=
  ⟨λi H=>∃ xs x,SqL K H a xs/\xs[i]?=some x,
   λi H v H'=>∃ p x,H p=none/\v=.ref p/\H'=upd H p (.tup [.int i,x])/\∀ xs,SqL K H a xs->xs[i]?=some x,
   λi H=>∃ xs,SqL K H a xs/\xs.length<=i⟩
theorem Inv.enumed{e:Addr}{xs:List V}(I:Inv X pins σ H s)
  (h:Yy X pins H e) (g:Yy X pins H it) (k:∀ b o,b≠e->b≠it->s.heap.get? b=some o->h'.get? b=some o)
  (x:h'.get? s.heap.objs.size=some { cls:=.type "tuple",data:=.seq us.toArray }) (w:Zm xs us) (hz:xs.length<=sizeLine) :
  Inv X pins σ (upd H s.heap.objs.size (.tup xs)) { s with heap:=h',toks:=t' }:=by
 have y:H s.heap.objs.size=none:=I.hok.fresh (Nat.le_refl _)
 have ne:∀ b o,s.heap.get? b=some o->b≠s.heap.objs.size:=λb o q=>Nat.ne_of_lt (Heap.lt_size q)
 have j:∀ b u,H b=some u->b≠e/\b≠it:=λb u q=>⟨(Z5 q h.1),(Z5 q g.1)⟩
 have i:∀ b u,H b=some u->b≠s.heap.objs.size:=λb u q=>Z5 q y
 refine I.step (g':=s.gens) (d':=s.drawn) (ch:=[e,it]) (λb f=>?_) (λb o _ _ a q _=>k b o (λz=>a (by simp[z])) (λz=>a (by simp[z])) q)
  (λb o _ _ a q _=>⟨o.slots,k b o (λz=>a (by simp[z])) (λz=>a (by simp[z])) q⟩) (λb o _ q n=>by rw[Zn (ne b o q)];exact n)
  (λb o a q=>⟨o,k b o (λz=>a (by simp[z])) (λz=>a (by simp[z])) q⟩) (λb p q=>by rw[Zn (i b _ q)];exact q) (λb o u q=>by rw[Zn (i b _ q)];exact q)
  (λb E q=>⟨#[],by rw[Zn (i b _ q),q];simp⟩) (λm B=>?_) (λb u q=>?_) I.bare
 ·have f:b=e\/b=it:=by simpa using f
  rcases f with rfl|rfl
  ·exact⟨h.2.2.2.1,h.2.1,h.2.2.2.2.1,h.2.2.2.2.2⟩
  ·exact⟨g.2.2.2.1,g.2.1,g.2.2.2.2.1,g.2.2.2.2.2⟩
 ·obtain⟨o,es,C,A,r⟩:=B
  exact⟨o,es,C,k _ o (Ne.symm h.2.1) (Ne.symm g.2.1) A,r⟩
 ·by_cases f:b=s.heap.objs.size
  ·subst f
   rw[ZF] at q
   cases q
   exact⟨hz,us,w,⟨_,x,rfl,⟨_,rfl⟩,rfl⟩⟩
  ·rw[Zn f] at q
   refine (I.hok b u q).stay (λc v a r=>?_) (λc r=>by rw[Zn (i c _ r)];exact r) λc p r=>by rw[Zn (i c _ r)];exact r
   rcases a with z|z
   ·rw[z] at r ⊢;exact k _ _ (j b u q).1 (j b u q).2 r
   ·exact k _ _ (j c _ z).1 (j c _ z).2 r
variable{tp:Pos}
theorem K5{x1}(a e it:Addr)(y:e≠it):Turn P w K (.Tuple es x1 tp) (Ite K a) [e,it] e (λi h=>(∃ old,IsEnum h e it i old)/\h.IsListIter it a i) where
 mem:=by simp
 obj:=λi h g b c=>by
  obtain⟨⟨old,f⟩,o,m,R,hd⟩:=g
  have c:b=e\/b=it:=by simpa using c
  rcases c with rfl|rfl
  ·exact⟨_,f,λv z=>by cases (show Data.fields _=Data.cell v from z)⟩
  ·exact⟨o,m,λv z=>by rw[hd] at z;cases z⟩
 keep:=λi h h' g k=>by
  obtain⟨⟨old,f⟩,m⟩:=g
  exact⟨⟨old,k e (by simp) _ f⟩,m.at λo q=>k it (by simp) o q⟩
 item:=by
  intro X S L T R i j s U H E I C g O
  subst S L T
  obtain⟨xs,x,B,J⟩:=O
  obtain⟨⟨old,f⟩,m⟩:=g
  obtain⟨G,F,p,hz⟩:=I.list B
  obtain⟨u,hu,Y⟩:=F.get J
  refine wpAny_pyNext_enum_item f m p.isList (x:=u) (by simpa using hu) y λh' ho N ht hsz k=>?_
  refine⟨_,rfl,wpAny_letOwnedTupleGo_enum ho λh2 Q r=>?_⟩
  have n:=C e (by simp)
  have W:=C it (by simp)
  have I1:Inv X j U (upd H s.heap.objs.size (.tup [.int i,x])) { s with heap:=h',toks:=s.toks+1 }:=I.enumed n W k ht (.cons ⟨_,rfl⟩ (.cons Y .nil)) (by show 2<=sizeLine;decide)
  have A:e≠s.heap.objs.size:=Nat.ne_of_lt (Heap.lt_size f)
  have M:it≠s.heap.objs.size:=by obtain⟨_,q,_⟩:=m;exact Nat.ne_of_lt (Heap.lt_size q)
  have I2:=I1.turned (h':=h2) (t':=s.toks+1) (it:=e) (λb o c q=>(r.2 b c).trans q) (by rw[Zn A];exact n.1) n.2.1 n.2.2.2.1 n.2.2.2.2.1 n.2.2.2.2.2
  refine⟨.ref s.heap.objs.size,_,I2,rfl,⟨s.heap.objs.size,x,I.hok.fresh (Nat.le_refl _),rfl,rfl,λys Z=>by rw[I.list_inj Z B];exact J⟩,⟨⟨u,by simpa using Q⟩,N.at λo q=>(r.2 it y.symm).trans q⟩,λb c=>?_⟩
  have c:b=e\/b=it:=by simpa using c
  rcases c with rfl|rfl
  ·rw[Zn A];exact n.1
  ·rw[Zn M];exact W.1
 done:=by
  intro X S L T R i j s U H E I C g O
  subst S L T
  obtain⟨xs,B,J⟩:=O
  obtain⟨⟨old,f⟩,m⟩:=g
  obtain⟨G,F,p,hz⟩:=I.list B
  obtain⟨f0,f1,f2,f3,f4,f5⟩:=C it (by simp)
  have hl:=F.length
  exact wpAny_pyNext_enum_end (I.ok.hd R) f m p.isList (by simp;omega) λh' eb=>⟨rfl,I.turned (t':=s.toks) (λb o c e=>eb b o c e) f0 f1 f3 f4 f5⟩
 self:=λ_ _ _ _ _ g h=>by
  obtain⟨⟨old,f⟩,_⟩:=g
  exact wpAny_pyIter_enum f h
def SZ(K:W.Frag)(ta:TA):TI:=λσ H R=>ta σ H λvs H1=>∃ a,vs=[.ref a]/\(∃ xs,SqL K H1 a xs)/\R (Ite K a) H1
theorem K6{a:Expr}{x1}{p:Pos}(hK:X.K=K)(C:Gl X "enumerate")(A:X.mg "enumerate" = none)(E:PA X [a] ta)(x:starEach [a] X.env=[(false,eval a X.env)]:=by rfl) :
  PI X (.Tuple es x1 tp) (.Call (.Name "enumerate" p) [a] [] pos) (SZ K ta):=by
 subst hK
 intro c s j H R I h
 refine Call_ (WQ I C A PyProof.Rows.boot_enumerate (PyProof.Rows.callWith_type1 (thn (E pos c s j H _ I h) λus f F=>?_) x rfl))
 obtain⟨vs,n,g,v,a,e,⟨xs,y⟩,q⟩:=F
 subst e
 cases v with
 | cons r u =>
  cases u
  cases (show _=Value.ref a from r)
  obtain⟨w,J,p,hz⟩:=g.list y
  refine call_enumerate_list p.isList λh' m B hsz k=>?_
  refine wpAny_pyIter_enum m ?_
  have G:Inv X c j n { f with heap:=h' }:=g.kept (t':=f.toks) k
  refine⟨_,[f.heap.objs.size+1,f.heap.objs.size],_,Ite X.K a,n,rfl,G,K5 a _ _ (Nat.ne_of_gt (Nat.lt_succ_self _)),⟨⟨_,m⟩,B⟩,λb i=>?_,q⟩
  have i:b=f.heap.objs.size+1\/b=f.heap.objs.size:=by simpa using i
  rcases i with rfl|rfl
  ·exact g.fpOk (Nat.le_succ _) (g.hok.fresh (Nat.le_succ _))
  ·exact g.fpOk (Nat.le_refl _) (g.hok.fresh (Nat.le_refl _))
variable{m:Nat}
theorem Enc.mono(E:Enc f n)(h:n<=m):Enc f m:=⟨E.eqv,E.lay,λa=>Nat.le_trans (E.dep a) h⟩
abbrev FK:=Value->Option Addr->St->Hp->Prop
def toF(E:XK):FK:=λc d _ H=>E c d H
theorem d_KT(x:h.DictOf (ZY P w) a []):h.DictOfH (tupleKind (ZY P w)) a []:=by
 obtain⟨o,es,g,f,e,c,j,b,i⟩:=x
 refine⟨o,es,g,f,e,c,?_,⟨λx z=>absurd z (by simp),nodup_nil⟩⟩
 generalize es.toList=l at b
 cases b
 rfl
theorem S0(x:h.DictOfH (tupleKind (ZY P w)) a []):h.DictOf (ZY P w) a []:=by
 obtain⟨o,es,j,i,g,f,c,n,m⟩:=x
 have e:es.toList=[]:=by simpa using c
 refine⟨o,es,j,i,g,f,λk b=>?_,by rw[e];exact .nil,nodup_nil⟩
 have:k∈es.toList:=by simpa using b
 rw[e] at this
 exact nomatch this
theorem P4(x:ZB P w H h a (.dK [])):ZB P w H' h a (.dT []):=by
 obtain⟨j,i,vs,rel,dd⟩:=x
 cases rel
 obtain⟨o,es,m,g,f,e,c,_,b⟩:=d_KT dd
 exact⟨j,i,[],.nil,o,es,m,g,f,e,c,b⟩
theorem U7(x:ZB P w H h a (.dT [])):ZB P w H' h a (.dK []):=by
 obtain⟨j,i,xs,rel,o,es,m,g,f,e,c,b⟩:=x
 cases rel
 exact⟨j,i,[],.nil,S0 ⟨o,es,m,g,f,e,c,⟨λx z=>absurd z (by simp),b⟩⟩⟩
def Xx(H:Hp)(b:Addr)(k:Key×List Key):Prop:=∃ c,H b=some (.tup [kV k.1,.ref c])/\H c=some (.tup (k.2.map kV))
theorem VE{k:Key×List Key}(ok:HOk P w H h)(e:Xx H b k):(WP (ZY P w)).is h k b:=by
 obtain⟨c,q,p⟩:=e
 obtain⟨_,g,r,o,m,j,⟨n,i⟩,_⟩:=(show ZB P w H h b (.tup [kV k.1,.ref c]) from ok b _ q)
 cases r with
 | cons f r =>
  cases r with
  | cons a r =>
   cases r
   have a:_=Value.ref c:=a
   subst a
   exact⟨o,_,n,_,c,m,j,i,rfl,WW f,WX ok p⟩
abbrev KN(H:Hp):List ((Key×List Key)×V)->List ((Key×List Key)×Addr×Value)->Prop:=Paired λp q=>p.1=q.1/\(∃ b,H q.2.1=some (.tup [kV p.1.1,.ref b])/\H b=some (.tup (p.1.2.map kV)))/\Zo p.2 q.2.2
theorem KN.val{kvs:List ((Key×List Key)×V)}{xs:List ((Key×List Key)×Addr×Value)}(r:KN H kvs xs)(k:Key×List Key):YJ (Yl kvs k) ((atKey xs k).map (·.2)):=by
 induction r with
 | nil=>exact True.intro
 | @cons p q g a h t c =>
  by_cases e:p.1=k
  ·have b:atKey (q::a) k=some q.2:=by simp[atKey,find?_cons,h.1.symm.trans e]
   rw[Uf e,b];exact h.2.2
  ·have f:¬ q.1=k:=λz=>e (h.1.trans z)
   have b:atKey (q::a) k=atKey a k:=by simp[atKey,find?_cons,f]
   rw[Ug e,b];exact c
theorem KN.put{kvs:List ((Key×List Key)×V)}{xs:List ((Key×List Key)×Addr×Value)}(r:KN H kvs xs)(k:Key×List Key){y:V}(hb:Xx H b k)(a:Zo y u):KN H (ZU kvs k y) (storedH xs k b u):=by
 have e:(kvs.any λc=>decide (c.1=k))=(atKey xs k).isSome:=by
  rw[UU,(r.val k).isSome_eq,Option.isSome_map]
 unfold ZU storedH
 rw[e]
 by_cases q:(atKey xs k).isSome=true
 ·rw[if_pos q,if_pos q]
  clear e q
  induction r with
  | nil=>exact .nil
  | @cons p q i g h t f =>
   rw[map_cons,map_cons]
   refine .cons ?_ f
   unfold putAt
   by_cases e:p.1=k
   ·rw[if_pos e,if_pos (h.1.symm.trans e)];exact⟨h.1,h.2.1,a⟩
   ·rw[if_neg e,if_neg (λz=>e (h.1.trans z))];exact h
 ·rw[if_neg q,if_neg q]
  exact Paired.snoc r ⟨rfl,hb,a⟩
theorem KN.keeps{kvs:List ((Key×List Key)×V)}{xs:List ((Key×List Key)×Addr×Value)}(r:KN H kvs xs)(a:∀ b ys,H b=some (.tup ys)->H' b=some (.tup ys)):KN H' kvs xs :=
 Paired.mapP r λ_ _ z=>⟨z.1,let ⟨b,e,c⟩:=z.2.1;⟨b,a _ _ e,a _ _ c⟩,z.2.2⟩
theorem Uk{kvs:List ((Key×List Key)×V)}(ok:HOk P w H h)(e:Rd H a (.dN kvs)):kvs.length<=sizeLine/\(a == sysModules)=false/\∃ xs,KN H kvs xs/\h.DictOfH (WP (ZY P w)) a xs:=by
 obtain⟨z,y,xs,r,o,es,u,s,n,j,i,g⟩:=(show ZB P w H h a (.dN kvs) from SQ ok e)
 refine⟨z,y,xs,r,o,es,u,s,n,j,i,λx b=>?_,g⟩
 have all:∀ {l:List ((Key×List Key)×V)} {m:List ((Key×List Key)×Addr×Value)},KN H l m->∀ x∈m,(WP (ZY P w)).is h x.1 x.2.1:=by
  intro l m q
  induction q with
  | nil=>intro x b;exact nomatch b
  | @cons p q A v c t f =>
   intro x b
   rcases mem_cons.mp b with e|b
   ·subst e
    exact VE ok (by rw[<- c.1];exact c.2.1)
   ·exact f x b
 exact all r x b
theorem d_KN(x:h.DictOf (ZY P w) a []):h.DictOfH (WP (ZY P w)) a []:=by
 obtain⟨o,es,g,f,e,c,j,b,i⟩:=x
 refine⟨o,es,g,f,e,c,?_,⟨λx z=>absurd z (by simp),nodup_nil⟩⟩
 generalize es.toList=l at b
 cases b
 rfl
theorem P5(x:ZB P w H h a (.dK [])):ZB P w H' h a (.dN []):=by
 obtain⟨j,i,vs,rel,dd⟩:=x
 cases rel
 obtain⟨o,es,m,g,f,e,c,_,b⟩:=d_KN dd
 exact⟨j,i,[],.nil,o,es,m,g,f,e,c,b⟩
theorem K7(ok:HOk P w H h)(e:Rd H a (.dK [])\/Rd H a (.dT [])):(a == sysModules)=false/\h.DictOf (ZY P w) a []:=by
 rcases e with e|e
 ·obtain⟨z,b,vs,rel,dd⟩:=Vx ok e
  cases rel
  exact⟨b,dd⟩
 ·obtain⟨z,b,vs,rel,dd⟩:=Vy ok e
  cases rel
  exact⟨b,S0 dd⟩
theorem U8(a:A.units+2<cLine):(WP (ZY P w)).room A.in1:=⟨by show A.units+1<cLine;omega,by show A.units+1+1<cLine;omega⟩
def P6(H:Hp)(a:Addr)(y:V)(r:Option V):Prop:=∃ kvs k b,Rd H a (.dN kvs)/\y=.ref b/\Xx H b k/\r=Yl kvs k
def S1(H:Hp)(a:Addr)(y:V)(r:Option V):Prop:=Uh H a y r\/P6 H a y r
def S2(H:Hp)(a:Addr)(y:V)(r:Option V):Prop:=Uh H a y r\/(r=none/\(∃ k,y=kV k)/\Rd H a (.dT []))\/(r=none/\(∃ (k:List Key) (b:Addr),y=.ref b/\H b=some (.tup (k.map kV)))/\Rd H a (.dK []))\/P6 H a y r\/(r=none/\(∃ (k:Key×List Key) (b:Addr),y=.ref b/\Xx H b k)/\(Rd H a (.dK [])\/Rd H a (.dT [])))
def VF(H:Hp)(a:Addr)(y v:V)(H':Hp):Prop:=YN H a y v H'\/(∃ k,y=kV k/\H a=some (.dT [])/\H'=upd H a (.dK [(k,v)]))\/(∃ (k:List Key) (b:Addr),y=.ref b/\H b=some (.tup (k.map kV))/\H a=some (.dK [])/\H'=upd H a (.dT [(k,v)]))\/(∃ kvs k b,H a=some (.dN kvs)/\y=.ref b/\Xx H b k/\kvs.length<sizeLine/\H'=upd H a (.dN (ZU kvs k v)))\/(∃ (k:Key×List Key) (b:Addr),y=.ref b/\Xx H b k/\(H a=some (.dK [])\/H a=some (.dT []))/\H'=upd H a (.dN [(k,v)]))
section
variable{y:V}{r:Value}{o:Option V}
theorem P7{kvs:List ((Key×List Key)×V)}{k:Key×List Key}{Q:Unit->Shared->Prop}(p:A.units+2<cLine)(I:Inv X pins σ H s)(e:H a=some (.dN kvs))(j:Xx H b k)(l:kvs.length<sizeLine)(m:Zo (.ref b) u)(n:Zo v r)(h:∀ s',Inv X pins σ (upd H a (.dN (ZU kvs k v))) s'->Q () s') :
  wpAny (model X.prog X.w) A (setItem (.ref a) u r) Q E s:=by
 cases (show u=Value.ref b from m)
 obtain⟨z,y,xs,rel,dd⟩:=Uk I.hok (.inl e)
 have hz:xs.length<=sizeLine:=by rw[<- Paired.length rel];exact z
 have x:(ZU kvs k v).length<=sizeLine:=by have:=Vw kvs k v;omega
 refine wpAny_setItem_heap (hsz:=hz) (U8 p) (VE I.hok j) dd λh' f w=>h _ ?_
 obtain⟨q,es,J,g,G,F,C,_,B⟩:=f
 refine Y0 I (by rw[e];exact True.intro) w ⟨q,g⟩ ⟨x,y,_,(rel.put k j n).keeps λc K i=>?_,q,es,J,g,G,F,C,B⟩
 rw[Zn (Wb i e (λz=>nomatch z))]
 exact i
theorem K8{k:Key×List Key}{kvs:List ((Key×List Key)×V)}(m:A.units+2<cLine)(I:Inv X pins σ H s)(e:Rd H a (.dN kvs))(q:Xx H b k)(l:some v=Yl kvs k)(i:Zo (.ref b) u)(h:∀ c s',Inv X pins σ H s'->Zo v c->Q c s') :
  wpAny (model X.prog X.w) A (getItem (.ref a) u) Q E s:=by
 cases (show u=Value.ref b from i)
 obtain⟨z,r,xs,rel,dd⟩:=Uk I.hok e
 obtain⟨c,j,f⟩:=YJ.some_of (v:=v) (o:=(atKey xs k).map (·.2)) (by rw[l];exact rel.val k)
 obtain⟨p,n,g⟩:=Option.map_eq_some_iff.mp j
 refine wpAny_getItem_heap (U8 m) (VE I.hok q) dd n ?_
 rw[g]
 exact h c _ (I.tok _) f
theorem K9(i:A.units+2<cLine)(I:Inv X pins σ H s)(g:S2 H a y o)(f:Zo y u)(h:∀ s',Inv X pins σ H s'->Q (.bool (!o.isSome)) s') :
  wpAny (model X.prog X.w) A (compareOp .NotIn u (.ref a)) Q E s:=by
 rcases g with g|⟨rfl,⟨k,rfl⟩,e⟩|⟨rfl,⟨k,b,rfl,eb⟩,e⟩|⟨kvs,k,b,e,rfl,eb,rfl⟩|⟨rfl,⟨k,b,rfl,eb⟩,e⟩
 ·exact KE (by omega) I g f h
 ·obtain⟨z,c,vs,rel,dd⟩:=Vy I.hok e
  cases rel
  exact wpAny_notIn_of (WW f) c (S0 dd).mapOf (h _ (I.tok _))
 ·obtain⟨z,c,vs,rel,dd⟩:=Vx I.hok e
  cases rel
  cases (show u=Value.ref b from f)
  exact wpAny_notIn_heap (tupleKind_room_in1 (by omega)) (WX I.hok eb) c (d_KT dd) (h _ (I.tok _))
 ·obtain⟨z,c,xs,rel,dd⟩:=Uk I.hok e
  cases (show u=Value.ref b from f)
  refine wpAny_notIn_heap (U8 i) (VE I.hok eb) c dd ?_
  have q:=(rel.val k).isSome_eq
  rw[Option.isSome_map] at q
  rw[<- q]
  exact h _ (I.tok _)
 ·obtain⟨c,dd⟩:=K7 I.hok e
  cases (show u=Value.ref b from f)
  exact wpAny_notIn_heap (U8 i) (VE I.hok eb) c (d_KN dd) (h _ (I.tok _))
theorem Ja{Q:Unit->Shared->Prop}(B:A.units+2<cLine)(I:Inv X pins σ H s)(g:VF H a y v H')(j:Zo y u)(m:Zo v r)(h:∀ s',Inv X pins σ H' s'->Q () s') :
  wpAny (model X.prog X.w) A (setItem (.ref a) u r) Q E s:=by
 have big:([]:List (Key×V)).length<sizeLine:=by decide
 have n:([]:List (List Key×V)).length<sizeLine:=by decide
 rcases g with g|⟨k,rfl,e,rfl⟩|⟨k,b,rfl,eb,e,rfl⟩|⟨kvs,k,b,e,rfl,eb,l,rfl⟩|⟨k,b,rfl,eb,e,rfl⟩
 ·exact SS (by omega) I g j m h
 ·have x:=I.hok a _ e
  obtain⟨q,f⟩:∃ q,s.heap.get? a=some q:=by obtain⟨_,_,_,_,q,_,_,f,_⟩:=x;exact⟨q,f⟩
  have J:Inv X pins σ (upd H a (.dK [])) s:=Y0 (t':=s.toks) I (by rw[e];exact True.intro) (Heap.SameBut.refl a s.heap) ⟨q,f⟩ (U7 x)
  refine SS (by omega) J (YN.k (k:=k) (v:=v) ZF big) j m λs' i=>h s' ?_
  rw[Vn] at i
  exact i
 ·have x:=I.hok a _ e
  obtain⟨q,f⟩:∃ q,s.heap.get? a=some q:=by obtain⟨_,_,_,_,q,_,_,f,_⟩:=x;exact⟨q,f⟩
  have J:Inv X pins σ (upd H a (.dT [])) s:=Y0 (t':=s.toks) I (by rw[e];exact True.intro) (Heap.SameBut.refl a s.heap) ⟨q,f⟩ (P4 x)
  refine SS (by omega) J (YN.t (k:=k) (v:=v) ZF (by rw[Zn (Wb eb e (λz=>nomatch z))];exact eb) n) j m λs' i=>h s' ?_
  rw[Vn] at i
  exact i
 ·exact P7 B I e eb l j m h
 ·have x:ZB X.prog X.w H s.heap a (.dK []):=by
   rcases e with e|e
   ·exact I.hok a _ e
   ·exact U7 (I.hok a _ e)
  obtain⟨q,f⟩:∃ q,s.heap.get? a=some q:=by obtain⟨_,_,_,_,q,_,_,f,_⟩:=x;exact⟨q,f⟩
  have mu:Mut (H a):=by rcases e with e|e<;>rw[e]<;>exact True.intro
  have J:Inv X pins σ (upd H a (.dN [])) s:=Y0 (t':=s.toks) I mu (Heap.SameBut.refl a s.heap) ⟨q,f⟩ (P5 x)
  have w:∀ c p,H c=some (.tup p)->upd H a (.dN []) c=some (.tup p):=λc p C=>by
   rw[Zn (by rcases e with e|e<;>exact Wb C e (λz=>nomatch z))];exact C
  refine P7 B J ZF (let ⟨c,G,F⟩:=eb;⟨c,w _ _ G,w _ _ F⟩) (by decide) j m λs' i=>h s' ?_
  rw[Vn] at i
  exact i
end
def P8(neg:Bool):R2:=λx y H Q=>∃ a r,y=.ref a/\S2 H a x r/\Q (.bl (if neg then !r.isSome else r.isSome)) H
theorem Jb(j:X.A.units+64<cLine):OpR X (compareOp .NotIn) (P8 true):=by
 intro b s f H x y v u Q I e c h
 obtain⟨a,r,rfl,g,q⟩:=h
 cases c
 exact K9 (by omega) I g e λi J=>⟨.bl _,H,J,rfl,q⟩
def S3:R2:=λx y H Q=>∃ a v,x=.ref a/\S1 H a y (some v)/\Q v H
theorem Jc(G:X.A.units+64<cLine):IxR X S3:=by
 intro c f i s w H x y v u Q I B n h C
 obtain⟨a,m,rfl,g,q⟩:=h
 cases B
 have p:s.TypeIs (.ref a) "dict" := by
  rcases g with g|⟨kvs,k,b,e,_⟩
  ·exact KF I g
  ·obtain⟨_,_,xs,_,o,es,K,F,E,_⟩:=Uk I.hok e
   exact⟨o,F,E.1⟩
 unfold subscriptTail
 refine wpAny_bind ?_
 rw[getitemInPython_of_ne p.not_modules]
 refine wpAny_bind (wpAny_specialOf p PySem.F.slot_dict_getitem.lookup ?_)
 have fin:wpAny (model X.prog X.w) X.A (subscripted f false (.ref a) u) (λr s₃=>wpAny (model X.prog X.w) X.A (letTemporaryGo c (.ref a) r >>= λ_=>pure r) (EP X i w Q) X.xe s₃) X.xe s:=by
  rw[C]
  rcases g with g|⟨kvs,k,b,e,rfl,eb,l⟩
  ·exact wpAny_operating (KD (by omega) I g n λr A J j=>wpAny_bind (wpAny_letTemporaryGo (wpAny_pure ⟨m,H,J,j,q⟩)))
  ·exact wpAny_operating (K8 (by omega) I e eb l n λr A J j=>wpAny_bind (wpAny_letTemporaryGo (wpAny_pure ⟨m,H,J,j,q⟩)))
 first
  | exact wpAny_pure (wpAny_bind fin)
  | exact wpAny_bind (wpAny_pure (wpAny_bind fin))
  | exact wpAny_bind fin
def Jd:V9:=λo i v H Q=>∃ a H',o=.ref a/\VF H a i v H'/\Q H'
def VG:V9:=λo i v H Q=>Pw o i v H Q\/Jd o i v H Q
theorem U9(r:X.A.units+64<cLine):Sx X VG:=by
 intro b s j H o i v m n u Q I e f c h
 rcases h with h|⟨a,H',rfl,g,q⟩
 ·exact Kk b s j H o i v m n u Q I e f c h
 ·cases e
  exact Ja (by omega) I g f c λp J=>⟨H',J,q⟩
section
variable [DecidableEq κ][DecidableEq α]
def ZG(kvs:List (α×β))(k:α):Option β:=(kvs.find? λkv=>decide (kv.1=k)).map (·.2)
def YF(kvs:List (α×β))(k:α)(v:β):List (α×β):=if (ZG kvs k).isSome then kvs.map λkv=>if kv.1=k then (kv.1,v) else kv else kvs++[(k,v)]
end
def Ul(d:PyData)(es:List PyData):Bool:=es.any λe=>PyData.eqv e d
def rInD(K:W.Frag)(neg:Bool):R2:=λx y H Q=>∃ d es,Rep K H x d/\(Rep K H y (.list es)\/Rep K H y (.tuple es))/\d.canLay0=true/\PyData.canLayAll0 es=true/\d.depth<=32/\Q (.bl (if neg then !Ul d es else Ul d es)) H
theorem Je(hK:X.K=K)(p:X.A.units+64<cLine):OpR X (compareOp .NotIn) (rInD K true):=by
 subst hK
 intro g s n H x y v u Q I j f h
 obtain⟨d,es,m,a,e,b,r,q⟩:=h
 obtain⟨as,i⟩:=Rep.reads I e m j
 rcases a with a|a
 ·obtain⟨bs,c⟩:=Rep.reads I (by simpa [PyData.canLay0] using b) a f
  exact SeqAt.notIn_list_reads c i b e (by omega) ⟨.bl _,H,I,rfl,q⟩
 ·obtain⟨bs,c⟩:=Rep.reads I (by simpa [PyData.canLay0] using b) a f
  exact SeqAt.notIn_tuple_reads c i b e (by omega) ⟨.bl _,H,I,rfl,q⟩
theorem P9{α:Type}[DecidableEq α]{f:α->PyData}{m:Nat}(F:Enc f m)(c:α):∀ xs:List α,Ul (f c) (xs.map f)=decide (c∈xs)
 | []=>by simp[Ul]
 | x::xs=>by
  have a:=P9 F c xs
  unfold Ul at a ⊢
  rw[map_cons,any_cons,a,F.dec]
  by_cases e:x=c
  ·subst e;simp
  ·have b:¬ c=x:=λz=>e z.symm
   simp[e,b]
theorem Ta{α:Type}{f:α->PyData}{m:Nat}(F:Enc f m):∀ xs:List α,PyData.canLayAll0 (xs.map f)=true
 | []=>by simp[PyData.canLayAll0]
 | x::xs=>by simp[PyData.canLayAll0,F.lay x,Ta F xs]
def rInS(neg:Bool):R2:=λx y H Q=>∃ i j,x=.str i/\y=.str j/\Q (.bl (if neg then !(!(Builtin.Str.occurrences j i 0 j.length 1).isEmpty) else !(Builtin.Str.occurrences j i 0 j.length 1).isEmpty)) H
def S4(K:W.Frag)(neg:Bool):R2:=λx y H Q=>rInD K neg x y H Q\/P8 neg x y H Q\/rInS neg x y H Q
theorem Tb(hK:X.K=K)(a:X.A.units+64<cLine):OpR X (compareOp .NotIn) (S4 K true):=(Je hK a).or ((Jb a).or Ko)
inductive AV where
 | d (x:PyData)
 | own (xs:List AV)
 | tup (xs:List AV)
 | dic (kvs:List (PyData×PyData))
 | obj (φ:V->Hp->Prop)
inductive TV where
 | av (a:AV)
 | bor (x:PyData)
 | raw (v:V)
abbrev Sl:=List (Option AV)
abbrev Fp:=Addr->Nat
mutual
def AV.data:AV->PyData
 | .d x=>x
 | .own xs=>.list (AV.datas xs)
 | .tup xs=>.tuple (AV.datas xs)
 | .dic kvs=>.dict kvs
 | .obj _=>dJ
def AV.datas:List AV->List PyData
 | []=>[]
 | x::xs=>x.data::AV.datas xs
end
theorem AV.datas_map:∀ xs:List AV,AV.datas xs=xs.map AV.data
 | []=>rfl
 | x::xs=>by rw[AV.datas,AV.datas_map xs];rfl
def Yi(K:W.Frag)(G:Hp)(o:HO)(kvs:List (PyData×PyData)):Prop :=
 (∃ (ks:List (Key×V)) (ds:List PyData),o=.dK ks/\Reps K G (ks.map Prod.snd) ds/\kvs=(ks.map λp=>Zx p.1).zip ds) \/
 (∃ (ks:List (List Key×V)) (ds:List PyData),o=.dT ks/\Reps K G (ks.map Prod.snd) ds/\kvs=(ks.map λp=>PyData.tuple (p.1.map Zx)).zip ds) \/
 ∃ (ks:List ((Key×List Key)×V)) (ds:List PyData),ks≠[]/\o=.dN ks/\Reps K G (ks.map Prod.snd) ds/\kvs=(ks.map λp=>PyData.tuple [Zx p.1.1,.tuple (p.1.2.map Zx)]).zip ds
variable{G G':Hp}
theorem Yi.mono{o:HO}{kvs:List (PyData×PyData)}(h:Yi K G o kvs)(m:Zf G G'):Yi K G' o kvs:=by
 rcases h with⟨ks,ds,e,r,z⟩|⟨ks,ds,e,r,z⟩|⟨ks,ds,n,e,r,z⟩
 ·exact .inl ⟨ks,ds,e,r.same m,z⟩
 ·exact .inr (.inl ⟨ks,ds,e,r.same m,z⟩)
 ·exact .inr (.inr ⟨ks,ds,n,e,r.same m,z⟩)
theorem Yi.rep{o:HO}{kvs:List (PyData×PyData)}(h:Yi K G o kvs)(e:G a=some o):Rep K G (.ref a) (.dict kvs):=by
 rcases h with⟨ks,ds,rfl,r,z⟩|⟨ks,ds,rfl,r,z⟩|⟨ks,ds,n,rfl,r,z⟩
 ·exact .dK (.inl e) r z
 ·exact .dT (.inl e) r z
 ·exact .dN n (.inl e) r z
def Mu:HO->Prop
 | .lst _=>True
 | .dK _=>True
 | .dT _=>True
 | .dN _=>True
 | _=>False
theorem Yi.mu{o:HO}{kvs:List (PyData×PyData)}(h:Yi K G o kvs):Mu o:=by
 rcases h with⟨ks,ds,rfl,_⟩|⟨ks,ds,rfl,_⟩|⟨ks,ds,_,rfl,_⟩<;>trivial
mutual
inductive RA(K:W.Frag)(G H:Hp):V->AV->Fp->Prop
 | d {v:V} {x:PyData} {p:Fp}:Rep K G v x->(∀ b,p b=0)->RA K G H v (.d x) p
 | own {a:Addr} {vs:List V} {xs:List AV} {p q:Fp}:H a=some (.lst vs)->RAs K G H vs xs p->(∀ b,q b=(if b=a then 1 else 0)+p b)->RA K G H (.ref a) (.own xs) q
 | tup {a:Addr} {vs:List V} {xs:List AV} {p:Fp}:G a=some (.tup vs)->RAs K G H vs xs p->RA K G H (.ref a) (.tup xs) p
 | dic {a:Addr} {o:HO} {kvs:List (PyData×PyData)} {q:Fp}:H a=some o->Yi K G o kvs->(∀ b,q b=if b=a then 1 else 0)->RA K G H (.ref a) (.dic kvs) q
 | obj {v:V} {φ:V->Hp->Prop} {p:Fp}:φ v G->(∀ G1 G2:Hp,Zf G1 G2->φ v G1->φ v G2)->(∀ b,p b=0)->RA K G H v (.obj φ) p
inductive RAs(K:W.Frag)(G H:Hp):List V->List AV->Fp->Prop
 | nil {p:Fp}:(∀ b,p b=0)->RAs K G H [] [] p
 | cons {v:V} {x:AV} {vs:List V} {xs:List AV} {p q r:Fp}:RA K G H v x p->RAs K G H vs xs q->(∀ b,r b=p b+q b)->RAs K G H (v::vs) (x::xs) r
end
theorem RA.ind{M:V->AV->Fp->Prop}{N:List V->List AV->Fp->Prop}(h1:∀ {v x p},Rep K G v x->(∀ b,p b=0)->M v (.d x) p)(h2:∀ {a vs xs p q},H a=some (.lst vs)->N vs xs p->(∀ b,q b=(if b=a then 1 else 0)+p b)->M (.ref a) (.own xs) q)
  (m:∀ {a vs xs p},G a=some (.tup vs)->N vs xs p->M (.ref a) (.tup xs) p) (g:∀ {a o kvs q},H a=some o->Yi K G o kvs->(∀ b,q b=if b=a then 1 else 0)->M (.ref a) (.dic kvs) q) (f:∀ {v φ p},φ v G->(∀ G1 G2:Hp,Zf G1 G2->φ v G1->φ v G2)->(∀ b,p b=0)->M v (.obj φ) p)
  (n:∀ {p},(∀ b,p b=0)->N [] [] p) (c:∀ {v x vs xs p q r},M v x p->N vs xs q->(∀ b,r b=p b+q b)->N (v::vs) (x::xs) r):(∀ {v a p},RA K G H v a p->M v a p)/\∀ {vs xs p},RAs K G H vs xs p->N vs xs p :=
 ⟨λh=>RA.rec (motive_1:=λv a p _=>M v a p) (motive_2:=λv a p _=>N v a p) h1 (λh _ e i=>h2 h i e) (λh _ i=>m h i) g f n (λ_ _ e i j=>c i j e) h,λh=>RAs.rec (motive_1:=λv a p _=>M v a p) (motive_2:=λv a p _=>N v a p) h1 (λh _ e i=>h2 h i e) (λh _ i=>m h i) g f n (λ_ _ e i j=>c i j e) h⟩
inductive RSl(K:W.Frag)(G H:Hp):St->Sl->Fp->Prop
 | nil {p:Fp}:(∀ b,p b=0)->RSl K G H [] [] p
 | no {o:Option V} {σ:St} {ρ:Sl} {p:Fp}:RSl K G H σ ρ p->RSl K G H (o::σ) (none::ρ) p
 | so {v:V} {a:AV} {σ:St} {ρ:Sl} {p q r:Fp}:RA K G H v a p->RSl K G H σ ρ q->(∀ b,r b=p b+q b)->RSl K G H (some v::σ) (some a::ρ) r
inductive RT(K:W.Frag)(G H:Hp):V->TV->Fp->Prop
 | av {v:V} {a:AV} {p:Fp}:RA K G H v a p->RT K G H v (.av a) p
 | bor {v:V} {x:PyData} {p:Fp}:Rep K H v x->(∀ b,p b=0)->RT K G H v (.bor x) p
 | raw {v:V} {p:Fp}:(∀ b,p b=0)->RT K G H v (.raw v) p
inductive RTs(K:W.Frag)(G H:Hp):List V->List TV->Fp->Prop
 | nil {p:Fp}:(∀ b,p b=0)->RTs K G H [] [] p
 | cons {v:V} {x:TV} {vs:List V} {xs:List TV} {p q r:Fp}:RT K G H v x p->RTs K G H vs xs q->(∀ b,r b=p b+q b)->RTs K G H (v::vs) (x::xs) r
def hid(H:Hp)(p q:Fp):Hp:=λb=>if p b+q b=0 then H b else none
structure SR(K:W.Frag)(H0:Hp)(σ:St)(ρ:Sl)(ts:List V)(as:List TV)(H:Hp):Prop where
 ex:∃ p q,RSl K (hid H p q) H σ ρ p/\RTs K (hid H p q) H ts as q/\(∀ b,p b+q b<=1)/\∀ b,0<p b+q b->H0 b=none
 same:Zf H0 H
variable{H0:Hp}{ρ:Sl}{p q p' q':Fp}{ts:List V}{as:List TV}{xs:List AV}
theorem RA.monoB(f:Zf G G'):(∀ {v:V} {a:AV} {p:Fp},RA K G H v a p->(∀ b o,0<p b->H b=some o->H' b=some o)->RA K G' H' v a p)/\∀ {vs:List V} {xs:List AV} {p:Fp},RAs K G H vs xs p->(∀ b o,0<p b->H b=some o->H' b=some o)->RAs K G' H' vs xs p :=
 RA.ind (M:=λv a p=>(∀ b o,0<p b->H b=some o->H' b=some o)->RA K G' H' v a p) (N:=λvs xs p=>(∀ b o,0<p b->H b=some o->H' b=some o)->RAs K G' H' vs xs p) (λr e _=>.d (r.same f) e) (λ{a _ _ _ _} h i e c=>.own (c a _ (by have:=e a;simp at this;omega) h) (i λb o z=>c b o (by have:=e b;omega)) e)
  (λh i c=>.tup (f _ _ h) (i c)) (λ{a _ _ _} h d e c=>.dic (c a _ (by have:=e a;simp at this;omega) h) (d.mono f) e) (λh m e _=>.obj (m _ _ f h) m e) (λe _=>.nil e) λi j e c=>.cons (i λb o z=>c b o (by have:=e b;omega)) (j λb o z=>c b o (by have:=e b;omega)) e
theorem RA.mono(e:Zf G G'){a:AV}(c:∀ b o,0<p b->H b=some o->H' b=some o)(h:RA K G H v a p):RA K G' H' v a p:=(RA.monoB e).1 h c
theorem RAs.mono(c:Zf G G')(a:∀ b o,0<p b->H b=some o->H' b=some o)(h:RAs K G H vs xs p):RAs K G' H' vs xs p:=(RA.monoB c).2 h a
theorem RA.lstB:(∀ {v:V} {a:AV} {p:Fp},RA K G H v a p->∀ b,0<p b->∃ o,H b=some o/\Mu o)/\∀ {vs:List V} {xs:List AV} {p:Fp},RAs K G H vs xs p->∀ b,0<p b->∃ o,H b=some o/\Mu o:=by
 refine RA.ind (M:=λv a p=>∀ b,0<p b->∃ o,H b=some o/\Mu o) (N:=λvs xs p=>∀ b,0<p b->∃ o,H b=some o/\Mu o) (λr e b z=>absurd (e b) (Nat.ne_of_gt z)) (λ{a vs xs p q} h i e b z=>?_) (λh i b z=>i b z) (λ{a o kvs q} h d e b z=>?_) (λ_ _ e b z=>absurd (e b) (Nat.ne_of_gt z)) (λe b z=>absurd (e b) (Nat.ne_of_gt z)) λ{v x vs xs p q r} i j e b z=>?_
 ·by_cases c:b=a
  ·subst c;exact⟨_,h,trivial⟩
  ·exact i b (by have:=e b;simp[c] at this;omega)
 ·by_cases c:b=a
  ·subst c;exact⟨_,h,d.mu⟩
  ·have:=e b;simp[c] at this;omega
 ·have:=e b
  rcases Nat.eq_zero_or_pos (p b) with h|h
  ·exact j b (by omega)
  ·exact i b h
theorem RA.lst{v:V}{a:AV}{p:Fp}(h:RA K G H v a p):∀ b,0<p b->∃ o,H b=some o/\Mu o:=RA.lstB.1 h
theorem RAs.lst{vs:List V}{xs:List AV}{p:Fp}(h:RAs K G H vs xs p):∀ b,0<p b->∃ o,H b=some o/\Mu o:=RA.lstB.2 h
theorem RSl.mono(c:Zf G G'){p:Fp}(r:RSl K G H σ ρ p):(∀ b o,0<p b->H b=some o->H' b=some o)->RSl K G' H' σ ρ p:=by
 induction r with
 | nil e=>exact λ_=>.nil e
 | no _ a=>exact λh=>.no (a h)
 | so r _ e a=>exact λh=>.so (r.mono c (λb o z=>h b o (by have:=e b;omega))) (a λb o z=>h b o (by have:=e b;omega)) e
theorem RSl.lst{p:Fp}(r:RSl K G H σ ρ p):∀ b,0<p b->∃ o,H b=some o/\Mu o:=by
 induction r with
 | nil e=>intro b z;have:=e b;omega
 | no _ c=>exact c
 | @so v a σ ρ f i g r _ e c =>
  intro b z
  have:=e b
  rcases Nat.eq_zero_or_pos (f b) with h|h
  ·exact c b (by omega)
  ·exact r.lst b h
theorem RT.mono{v:V}{a:TV}{p:Fp}(f:Zf G G')(c:Zf H H')(r:RT K G H v a p):RT K G' H' v a p:=by
 cases r with
 | av r=>exact .av (r.mono f λb o _=>c b o)
 | bor r e=>exact .bor (r.same c) e
 | raw e=>exact .raw e
theorem RT.lst{v:V}{a:TV}{p:Fp}(r:RT K G H v a p):∀ b,0<p b->∃ o,H b=some o/\Mu o:=by
 cases r with
 | av r=>exact r.lst
 | bor r e=>intro b z;have:=e b;omega
 | raw e=>intro b z;have:=e b;omega
theorem RTs.mono{p:Fp}(c:Zf G G')(b:Zf H H')(r:RTs K G H ts as p):RTs K G' H' ts as p:=by
 induction r with
 | nil e=>exact .nil e
 | cons r _ e a=>exact .cons (r.mono c b) a e
theorem RTs.lst{p:Fp}(r:RTs K G H ts as p):∀ b,0<p b->∃ o,H b=some o/\Mu o:=by
 induction r with
 | nil e=>intro b z;have:=e b;omega
 | @cons v x vs xs a g f r _ e c =>
  intro b z
  have:=e b
  rcases Nat.eq_zero_or_pos (a b) with h|h
  ·exact c b (by omega)
  ·exact r.lst b h
def Stb(as:List TV):Prop:=∀ a∈as,∃ x,a=.av (.d x)
theorem Stb.nil:Stb []:=λ_ h=>nomatch h
theorem Stb.cons{x:PyData}(h:Stb as):Stb (.av (.d x)::as):=λb a=>by
 rcases mem_cons.mp a with e|e
 ·exact⟨x,e⟩
 ·exact h b e
theorem RTs.monoS(i:Zf G G')(r:RTs K G H ts as p):Stb as->(∀ b o,0<p b->H b=some o->H' b=some o)->RTs K G' H' ts as p:=by
 induction r with
 | nil e=>exact λ_ _=>.nil e
 | cons r _ e g =>
  intro c f
  refine .cons ?_ (g (λa h=>c a (.tail _ h)) λb o z=>f b o (by have:=e b;omega)) e
  cases r with
  | av r=>exact .av (r.mono i λb o z=>f b o (by have:=e b;omega))
  | bor _ _=>obtain⟨x,e⟩:=c _ (.head _);cases e
  | raw e=>exact .raw e
theorem W0(h:Zf H H'):Zf (hid H p q) (hid H' p q):=λb o e=>by
 unfold hid at e ⊢
 split at e
 ·rename_i z;rw[if_pos z];exact h b o e
 ·cases e
theorem Ym:Zf (hid H p q) H:=λb o e=>by
 unfold hid at e
 split at e
 ·exact e
 ·cases e
theorem hid_more(h:∀ b,p b+q b=0->p' b+q' b=0):Zf (hid H p q) (hid H p' q'):=λb o e=>by
 unfold hid at e ⊢
 split at e
 ·rename_i z;rw[if_pos (h b z)];exact e
 ·cases e
theorem Jf(h:∀ b,p b+q b=p' b+q' b):hid H p q=hid H p' q':=by
 funext b;unfold hid;rw[h b]
theorem SR.ext(h:SR K H0 σ ρ ts as H)(e:Zf H H'):SR K H0 σ ρ ts as H':=by
 obtain⟨⟨p,q,g,f,c,a⟩,s⟩:=h
 exact⟨⟨p,q,g.mono (W0 e) (λb o _=>e b o),f.mono (W0 e) e,c,a⟩,s.trans e⟩
theorem Oa{xs:List V}(hl:∀ b,0<p b+q b->∃ o,H b=some o/\Mu o)(h:H a=some (.tup xs)):L2.hid H p q a=some (.tup xs):=by
 unfold L2.hid
 rw[if_pos]
 ·exact h
 ·rcases Nat.eq_zero_or_pos (p a+q a) with z|z
  ·exact z
  ·obtain⟨vs,e,mu⟩:=hl a z;rw[h] at e;cases e;exact mu.elim
theorem Rep.hidB(hl:∀ b,0<p b+q b->∃ o,H b=some o/\Mu o):(∀ {v:V} {x:PyData},Rep K H v x->ZE x=true->Rep K (L2.hid H p q) v x)/\∀ {vs:List V} {xs:List PyData},Reps K H vs xs->noLsts xs=true->Reps K (L2.hid H p q) vs xs :=
 Rep.indF (M:=λv x=>ZE x=true->Rep K (L2.hid H p q) v x) (N:=λvs xs=>noLsts xs=true->Reps K (L2.hid H p q) vs xs) (λ_=>.non) (λb _=>.bl b) (λi _=>.int i) (λx _=>.str x) (λ_ _ a=>by simp[ZE] at a) (λh i a=>.tup (Oa hl h) (i (by simpa [ZE] using a))) (λ_ _ a=>by simp[ZE] at a) (λ_=>.nil) λi j a=>by
  simp only[noLsts,Bool.and_eq_true] at a
  exact .cons (i a.1) (j a.2)
theorem Rep.hid{p q:Fp}(hl:∀ b,0<p b+q b->∃ o,H b=some o/\Mu o){v:V}{x:PyData}(hn:ZE x=true)(h:Rep K H v x):Rep K (L2.hid H p q) v x:=(Rep.hidB hl).1 h hn
theorem Reps.hid{p q:Fp}(hl:∀ b,0<p b+q b->∃ o,H b=some o/\Mu o){vs:List V}{xs:List PyData}(hn:noLsts xs=true)(h:Reps K H vs xs):Reps K (L2.hid H p q) vs xs:=(Rep.hidB hl).2 h hn
theorem RA.frzB(c:Zf G G'):(∀ {v:V} {a:AV} {p:Fp},RA K G H v a p->(∀ b o,0<p b->H b=some o->G' b=some o)->Rep K G' v a.data)/\∀ {vs:List V} {xs:List AV} {p:Fp},RAs K G H vs xs p->(∀ b o,0<p b->H b=some o->G' b=some o)->Reps K G' vs (AV.datas xs) :=
 RA.ind (M:=λv a p=>(∀ b o,0<p b->H b=some o->G' b=some o)->Rep K G' v a.data) (N:=λvs xs p=>(∀ b o,0<p b->H b=some o->G' b=some o)->Reps K G' vs (AV.datas xs)) (λr _ _=>r.same c) (λ{a _ _ _ _} e i z h=>.lst (SqL.of (h a _ (by have:=z a;simp at this;omega) e)) (i λb o y=>h b o (by have:=z b;omega)))
  (λe i h=>.tup (c _ _ e) (i h)) (λ{a _ _ _} e d z h=>(d.mono c).rep (h a _ (by have:=z a;simp at this;omega) e)) (λ_ _ _ _=>.junk) (λ_ _=>.nil) λi j z h=>.cons (i λb o y=>h b o (by have:=z b;omega)) (j λb o y=>h b o (by have:=z b;omega))
theorem RA.frz(e:Zf G G'){a:AV}(c:∀ b o,0<p b->H b=some o->G' b=some o)(h:RA K G H v a p):Rep K G' v a.data:=(RA.frzB e).1 h c
theorem RAs.frz(c:Zf G G')(a:∀ b o,0<p b->H b=some o->G' b=some o)(h:RAs K G H vs xs p):Reps K G' vs (AV.datas xs):=(RA.frzB c).2 h a
theorem RA.rep(b:Zf G H){a:AV}(h:RA K G H v a p):Rep K H v a.data:=h.frz b λ_ _ _ z=>z
theorem RAs.rep(a:Zf G H)(h:RAs K G H vs xs p):Reps K H vs (AV.datas xs):=h.frz a λ_ _ _ z=>z
def TV.data:TV->PyData
 | .av a=>a.data
 | .bor x=>x
 | .raw _=>.none
theorem RT.rep{v:V}{a:TV}{p:Fp}(c:Zf G H)(b:∀ v,a≠.raw v)(r:RT K G H v a p):Rep K H v a.data:=by
 cases r with
 | av r=>exact r.rep c
 | bor r _=>exact r
 | raw _=>exact absurd rfl (b _)
structure Exc where
 cls:Addr
 fs:List (Str×PyData):=[]
def S5(K:W.Frag)(H:Hp)(e:Exc)(c:Value)(d:Option Addr):Prop :=
 c=.ref e.cls/\((e.fs=[]/\d=none)\/∃ a vs,d=some a/\H a=some (hXD a vs)/\vs.map Prod.fst=e.fs.map Prod.fst/\Reps K H (vs.map Prod.snd) (e.fs.map Prod.snd))
class Tabs where
 ts:List (Addr×(Nat->Nat->Str))
variable [Tabs]
def XS(H:Hp):Prop:=∀ p∈Tabs.ts,H p.1=some (.tbq p.2)
theorem XS.same(t:XS H)(s:Zf H H'):XS H':=λp a=>s _ _ (t p a)
structure XOk(K:W.Frag)(E:FK)(X:Exc->Sl->Prop)(H0:Hp):Prop where
 x:∀ e ρ,X e ρ->∀ c d σ H',SR K H0 σ ρ [] [] H'->S5 K H' e c d->E c d σ H'
 t:XS H0
def NE:Exc->Sl->Prop:=λ_ _=>False
theorem XOk.ne{E:FK}(t:XS H0):XOk K E NE H0:=⟨λ_ _ z=>z.elim,t⟩
structure VEnds where
 nx:Sl->Prop
 rt:TV->Prop
 bk:Sl->Prop:=λ_=>False
 ct:Sl->Prop:=λ_=>False
structure Fit(K:W.Frag)(H0:Hp)(ts:List V)(as:List TV)(DV:VEnds)(D:Ends):Prop where
 nx:∀ ρ,DV.nx ρ->∀ σ H,SR K H0 σ ρ ts as H->D.nx σ H
 bk:∀ ρ,DV.bk ρ->∀ σ H,SR K H0 σ ρ ts as H->D.bk σ H
 ct:∀ ρ,DV.ct ρ->∀ σ H,SR K H0 σ ρ ts as H->D.ct σ H
 rt:∀ a,DV.rt a->∀ v σ ρ H,SR K H0 σ ρ (v::ts) (a::as) H->D.rt v H
def TV.sto:TV->Option AV
 | .av a=>some a
 | .bor x=>if ZE x=true then some (.d x) else none
 | .raw _=>none
section
variable (K:W.Frag)(E:FK)(X:Exc->Sl->Prop)
def Ev(t:TE)(ρ:Sl)(Q:TV->Prop):Prop :=
 ∀ (H0:Hp) (σ:St) (ts:List V) (as:List TV) (H:Hp) (QV:VK),SR K H0 σ ρ ts as H->XOk K E X H0->(∀ a,Q a->∀ v H',SR K H0 σ ρ (v::ts) (a::as) H'->QV v H')->t σ H QV
def Tv(t:TT)(ρ:Sl)(Q:Bool->Prop):Prop :=
 ∀ (H0:Hp) (σ:St) (ts:List V) (as:List TV) (H:Hp) (QV:Bool->Hp->Prop),SR K H0 σ ρ ts as H->XOk K E X H0->(∀ b,Q b->∀ H',SR K H0 σ ρ ts as H'->QV b H')->t σ H QV
def Ea(t:TA)(ρ:Sl)(Q:List TV->Prop):Prop :=
 ∀ (H0:Hp) (σ:St) (ts:List V) (as:List TV) (H:Hp) (QV:List V->Hp->Prop),SR K H0 σ ρ ts as H->XOk K E X H0->(∀ bs,Q bs->∀ vs H',SR K H0 σ ρ (vs++ts) (bs++as) H'->vs.length=bs.length->QV vs H')->t σ H QV
def Op(r:R2)(a b:TV)(Q:TV->Prop):Prop :=
 ∀ (H0:Hp) (σ:St) (ρ:Sl) (ts:List V) (as:List TV) (H:Hp) (x y:V) (QV:VK),SR K H0 σ ρ (y::x::ts) (b::a::as) H->XOk K E X H0->(∀ c,Q c->∀ v H',SR K H0 σ ρ (v::ts) (c::as) H'->QV v H')->r x y H QV
def Un1(r:V->Hp->VK->Prop)(a:TV)(Q:TV->Prop):Prop :=
 ∀ (H0:Hp) (σ:St) (ρ:Sl) (ts:List V) (as:List TV) (H:Hp) (x:V) (QV:VK),SR K H0 σ ρ (x::ts) (a::as) H->XOk K E X H0->(∀ c,Q c->∀ v H',SR K H0 σ ρ (v::ts) (c::as) H'->QV v H')->r x H QV
def Bi(r:List V->Hp->VK->Prop)(bs:List TV)(Q:TV->Prop):Prop :=
 ∀ (H0:Hp) (σ:St) (ρ:Sl) (ts:List V) (as:List TV) (H:Hp) (vs:List V) (QV:VK),SR K H0 σ ρ (vs++ts) (bs++as) H->vs.length=bs.length->XOk K E X H0->(∀ c,Q c->∀ v H',SR K H0 σ ρ (v::ts) (c::as) H'->QV v H')->r vs H QV
def Sv(t:TS)(ρ:Sl)(DV:VEnds):Prop :=
 ∀ (H0:Hp) (σ:St) (ts:List V) (as:List TV) (H:Hp) (D:Ends),Stb as->SR K H0 σ ρ ts as H->XOk K E X H0->Fit K H0 ts as DV D->t D σ H
end
section
variable{x y:V}{a b:TV}
theorem SR.top(h:SR K H0 σ ρ (v::ts) (a::as) H)(b:∀ v,a≠.raw v):Rep K H v a.data:=by
 obtain⟨⟨p,q,_,c,_⟩,_⟩:=h
 cases c with
 | cons r _ _=>exact r.rep Ym b
theorem SR.top_d{x:PyData}(h:SR K H0 σ ρ (v::ts) (.av (.d x)::as) H):Rep K H v x:=h.top (a:=.av (.d x)) (λ_ z=>nomatch z)
theorem SR.pop(h:SR K H0 σ ρ (v::ts) (a::as) H):SR K H0 σ ρ ts as H:=by
 obtain⟨⟨p,q,j,i,g,f⟩,s⟩:=h
 cases i with
 | @cons _ _ _ _ m c _ r rs e =>
  refine⟨⟨p,c,j.mono (hid_more λb z=>by have:=e b;omega) (λ_ _ _ z=>z),rs.mono (hid_more λb z=>by have:=e b;omega) (λ_ _ z=>z),λb=>by have:=e b;have:=g b;omega,λb z=>f b (by have:=e b;omega)⟩,s⟩
theorem SR.push(h:SR K H0 σ ρ ts as H){x:PyData}(r:∀ G,Rep K G v x):SR K H0 σ ρ (v::ts) (.av (.d x)::as) H:=by
 obtain⟨⟨p,q,f,e,c,a⟩,s⟩:=h
 exact⟨⟨p,q,f,.cons (.av (.d (p:=λ_=>0) (r _) λ_=>rfl)) e (λb=>by simp),c,a⟩,s⟩
theorem SR.pushB(h:SR K H0 σ ρ ts as H){x:PyData}(r:Rep K H v x):SR K H0 σ ρ (v::ts) (.bor x::as) H:=by
 obtain⟨⟨p,q,f,e,c,a⟩,s⟩:=h
 exact⟨⟨p,q,f,.cons (.bor (p:=λ_=>0) r λ_=>rfl) e (λb=>by simp),c,a⟩,s⟩
theorem SR.lsts(h1:RSl K G H σ ρ p)(h2:RTs K G H ts as q):∀ b,0<p b+q b->∃ o,H b=some o/\Mu o:=λb z=>by
 rcases Nat.eq_zero_or_pos (p b) with e|e
 ·exact h2.lst b (by omega)
 ·exact h1.lst b e
theorem SR.pushF(h:SR K H0 σ ρ ts as H){x:PyData}(e:ZE x=true)(r:Rep K H v x):SR K H0 σ ρ (v::ts) (.av (.d x)::as) H:=by
 obtain⟨⟨p,q,c,a,g,f⟩,s⟩:=h
 exact⟨⟨p,q,c,.cons (.av (.d (p:=λ_=>0) (Rep.hid (SR.lsts c a) e r) λ_=>rfl)) a (λb=>by simp),g,f⟩,s⟩
theorem SR.int(h:SR K H0 σ ρ ts as H)(i:Int):SR K H0 σ ρ (.int i::ts) (.av (.d (.int i))::as) H:=h.push λ_=>.int i
theorem SR.bl(h:SR K H0 σ ρ ts as H)(i:Bool):SR K H0 σ ρ (.bl i::ts) (.av (.d (.bool i))::as) H:=h.push λ_=>.bl i
theorem SR.sto{a':AV}(h:SR K H0 σ ρ (v::ts) (a::as) H)(e:a.sto=some a'):SR K H0 σ ρ (v::ts) (.av a'::as) H:=by
 cases a with
 | av a=>cases e;exact h
 | raw u=>cases e
 | bor x =>
  unfold TV.sto at e
  by_cases z:ZE x=true
  ·simp only[z,if_true,Option.some.injEq] at e
   subst e
   exact h.pop.pushF z (h.top (a:=.bor x) λ_ z=>nomatch z)
  ·simp[z] at e
theorem SR.frzT{a:AV}(h:SR K H0 σ ρ (v::ts) (.av a::as) H):SR K H0 σ ρ (v::ts) (.av (.d a.data)::as) H:=by
 obtain⟨⟨p,q,j,i,f,g⟩,s⟩:=h
 cases i with
 | @cons _ _ _ _ n c _ r rs e =>
  cases r with
  | av r =>
   have m:Zf (hid H p q) (hid H p c):=hid_more λb z=>by have:=e b;omega
   refine⟨⟨p,c,j.mono m (λ_ _ _ z=>z),.cons (.av (.d (p:=λ_=>0) (r.frz m λb o y z=>?_) λ_=>rfl)) (rs.mono m λ_ _ z=>z) (λb=>by simp),λb=>by have:=e b;have:=f b;omega,λb z=>g b (by have:=e b;omega)⟩,s⟩
   unfold hid
   rw[if_pos (by have:=e b;have:=f b;omega)]
   exact z
theorem RSl.frz{a:AV}(r:RSl K G H σ ρ p)(hi:ρ[i]?=some (some a))(F:∀ b o,0<p b->H b=some o->True) :
  ∃ (h p2:Fp) (v:V),(∀ b,p b=h b+p2 b)/\σ[i]?=some (some v)/\RA K G H v a h/\∀ (G' H':Hp) (f:V) (a':AV) (c r':Fp),Zf G G'->(∀ b o,0<p2 b->H b=some o->H' b=some o)->RA K G' H' f a' c->(∀ b,r' b=c b+p2 b)->RSl K G' H' (σ.set i (some f)) (ρ.set i (some a')) r':=by
 induction r generalizing i with
 | nil _=>simp at hi
 | @no o σ ρ p r q =>
  cases i with
  | zero=>simp at hi
  | succ i =>
   obtain⟨h,p2,v,A,x,u,s⟩:=q (by simpa using hi) (λ_ _ _ _=>trivial)
   exact⟨h,p2,v,A,by simpa using x,u,λG' H' f a' c r' m n j z=>.no (s G' H' f a' c r' m n j z)⟩
 | @so v E σ ρ B C pr j r e q =>
  cases i with
  | zero =>
   have:E=a:=by simpa using hi
   subst this
   exact⟨B,C,v,e,rfl,j,λG' H' f a' c r' m n g z=>.so g (r.mono m n) z⟩
  | succ i =>
   obtain⟨h,p2,w,A,x,u,s⟩:=q (by simpa using hi) (λ_ _ _ _=>trivial)
   refine⟨h,λb=>B b+p2 b,w,λb=>by have:=e b;have:=A b;dsimp only;omega,by simpa using x,u,λG' H' f a' c r' m n g z=>?_⟩
   exact .so (j.mono m λb o y=>n b o (by dsimp only;omega)) (s G' H' f a' c (λb=>c b+p2 b) m (λb o y=>n b o (by dsimp only;omega)) g λ_=>rfl) (λb=>by have:=z b;dsimp only at this ⊢;omega)
theorem Um{α:Type}:∀ {l:List α} {i:Nat} {x:α},l[i]?=some x->l.set i x=l
 | [],_,_,h=>by simp at h
 | y::l,0,x,h=>by simp at h;simp[h]
 | y::l,i+1,x,h=>by simp at h;simp[Um h]
theorem RSl.len(r:RSl K G H σ ρ p):σ.length=ρ.length:=by
 induction r with
 | nil _=>rfl
 | no _ a=>simp[a]
 | so _ _ _ a=>simp[a]
theorem RSl.set{i:Nat}{w:V}{a:AV}{p m:Fp}(r:RSl K G H σ ρ p)(hi:i<ρ.length)(j:RA K G H w a m):∃ p2:Fp,(∀ b,p2 b<=p b)/\RSl K G H (σ.set i (some w)) (ρ.set i (some a)) (λb=>m b+p2 b):=by
 induction r generalizing i with
 | nil _=>simp at hi
 | @no o σ ρ p r f =>
  cases i with
  | zero=>exact⟨p,λ_=>Nat.le_refl _,.so j r λ_=>rfl⟩
  | succ i =>
   obtain⟨p2,h,g⟩:=f (by simpa using hi)
   exact⟨p2,h,.no g⟩
 | @so v s σ ρ q n pr c r e f =>
  cases i with
  | zero=>exact⟨n,λb=>by have:=e b;omega,.so j r λ_=>rfl⟩
  | succ i =>
   obtain⟨p2,h,g⟩:=f (by simpa using hi)
   exact⟨λb=>q b+p2 b,λb=>by have:=e b;have:=h b;dsimp only;omega,.so c g λb=>by dsimp only;omega⟩
theorem SR.of_le(s:Zf H0 H)(e:∀ b,p b+q b<=1)(c:∀ b,0<p b+q b->H0 b=none)(a:∀ b,p' b+q' b<=p b+q b)(h1:RSl K (hid H p q) H σ ρ p')(h2:RTs K (hid H p q) H ts as q'):SR K H0 σ ρ ts as H :=
 ⟨⟨p',q',h1.mono (hid_more λb z=>by have:=a b;omega) (λ_ _ _ z=>z),h2.mono (hid_more λb z=>by have:=a b;omega) (λ_ _ z=>z),λb=>by have:=a b;have:=e b;omega,λb z=>c b (by have:=a b;omega)⟩,s⟩
theorem SR.store{a:AV}(h:SR K H0 σ ρ (v::ts) (.av a::as) H)(hi:i<ρ.length):SR K H0 (σ.set i (some v)) (ρ.set i (some a)) ts as H:=by
 obtain⟨⟨p,q,u,n,m,j⟩,s⟩:=h
 cases n with
 | @cons _ _ _ _ g c _ r rs e =>
  cases r with
  | av r =>
   obtain⟨f,x,w⟩:=u.set hi r
   refine SR.of_le (p:=p) (q:=q) (p':=λb=>g b+f b) (q':=c) s m j (λb=>?_) w rs
   have:=e b;have:=x b;omega
theorem RSl.drop{o:Option V}(r:RSl K G H σ ρ p):∃ p2:Fp,(∀ b,p2 b<=p b)/\RSl K G H (σ.set i o) (ρ.set i none) p2:=by
 induction r generalizing i with
 | nil e=>exact⟨_,λ_=>Nat.le_refl _,by simpa using .nil e⟩
 | @no o σ ρ p r c =>
  cases i with
  | zero=>exact⟨p,λ_=>Nat.le_refl _,.no r⟩
  | succ i=>obtain⟨p2,g,f⟩:=c (i:=i);exact⟨p2,g,.no f⟩
 | @so v m σ ρ j h pr a r e c =>
  cases i with
  | zero=>exact⟨h,λb=>by have:=e b;omega,.no r⟩
  | succ i =>
   obtain⟨p2,g,f⟩:=c (i:=i)
   exact⟨λb=>j b+p2 b,λb=>by have:=e b;have:=g b;dsimp only;omega,.so a f λb=>rfl⟩
theorem SR.drop{i:Nat}(h:SR K H0 σ ρ ts as H):SR K H0 σ (ρ.set i none) ts as H:=by
 obtain⟨⟨p,q,a,f,e,c⟩,s⟩:=h
 by_cases m:i<σ.length
 ·obtain⟨j,n,g⟩:=a.drop (i:=i) (o:=σ[i])
  rw[Um (getElem?_eq_getElem m)] at g
  exact SR.of_le (p:=p) (q:=q) (p':=j) (q':=q) s e c (λb=>by have:=n b;omega) g f
 ·have:ρ.set i none=ρ:=List.set_eq_of_length_le (by rw[<- a.len];omega)
  rw[this]
  exact⟨⟨p,q,a,f,e,c⟩,s⟩
theorem RTs.swap{u w:V}(r:RTs K G H (u::w::ts) (a::b::as) p):RTs K G H (w::u::ts) (b::a::as) p:=by
 cases r with
 | cons f rs h=>cases rs with
  | cons e rs g=>exact .cons e (.cons f rs λ_=>rfl) (λc=>by have:=h c;have:=g c;omega)
theorem RTs.rot{u:V}:∀ {vs:List V} {bs:List TV} {p:Fp},vs.length=bs.length->RTs K G H (vs++u::ts) (bs++a::as) p->RTs K G H (u::(vs++ts)) (a::(bs++as)) p
 | [],[],_,_,r=>r
 | w::vs,b::bs,p,e,r=>by
  cases r with
  | cons c rs f=>exact RTs.swap (.cons c (RTs.rot (by simpa using e) rs) f)
theorem SR.rot{u:V}{vs:List V}{bs:List TV}(e:vs.length=bs.length)(h:SR K H0 σ ρ (vs++u::ts) (bs++a::as) H):SR K H0 σ ρ (u::(vs++ts)) (a::(bs++as)) H :=
 let ⟨⟨p,q,g,f,c,b⟩,s⟩:=h
 ⟨⟨p,q,g,f.rot e,c,b⟩,s⟩
theorem SR.swap{u w:V}(h:SR K H0 σ ρ (u::w::ts) (a::b::as) H):SR K H0 σ ρ (w::u::ts) (b::a::as) H :=
 let ⟨⟨p,q,g,f,e,c⟩,s⟩:=h
 ⟨⟨p,q,g,f.swap,e,c⟩,s⟩
theorem RTs.back{u:V}:∀ {vs:List V} {bs:List TV} {p:Fp},vs.length=bs.length->RTs K G H (u::(vs++ts)) (a::(bs++as)) p->RTs K G H (vs++u::ts) (bs++a::as) p
 | [],[],_,_,r=>r
 | w::vs,b::bs,p,e,r=>by
  have f:=RTs.swap r
  cases f with
  | cons c rs g=>exact .cons c (RTs.back (by simpa using e) rs) g
theorem SR.back{u:V}{vs:List V}{bs:List TV}(e:vs.length=bs.length)(h:SR K H0 σ ρ (u::(vs++ts)) (a::(bs++as)) H):SR K H0 σ ρ (vs++u::ts) (bs++a::as) H :=
 let ⟨⟨p,q,g,f,c,b⟩,s⟩:=h
 ⟨⟨p,q,g,f.back e,c,b⟩,s⟩
inductive Stos:List TV->List AV->Prop
 | nil:Stos [] []
 | cons {a:TV} {x:AV} {as:List TV} {xs:List AV}:a.sto=some x->Stos as xs->Stos (a::as) (x::xs)
theorem SR.stos:∀ {vs:List V} {bs:List TV} {xs:List AV},Stos bs xs->vs.length=bs.length->∀ {us:List V} {cs:List TV},us.length=cs.length->SR K H0 σ ρ (us++(vs++ts)) (cs++(bs++as)) H->SR K H0 σ ρ (us++(vs++ts)) (cs++(xs.map TV.av++as)) H
 | [],_,_,.nil,_,_,_,_,h=>h
 | [],_,_,.cons _ _,e,_,_,_,_=>by simp at e
 | w::vs,_,_,.nil,e,_,_,_,_=>by simp at e
 | w::vs,b::bs,x::xs,.cons e1 es,e,us,cs,e2,h=>by
  have g:SR K H0 σ ρ (us++w::(vs++ts)) (cs++b::(bs++as)) H:=h
  have f:=(g.rot e2).sto e1
  have c:SR K H0 σ ρ ((w::us)++(vs++ts)) ((.av x::cs)++(bs++as)) H:=f
  have a:=SR.stos (us:=w::us) (cs:=.av x::cs) es (by simpa using e) (by simp[e2]) c
  exact SR.back e2 a
theorem RTs.avs{xs:List AV}:∀ {vs:List V} {bs:List AV} {p:Fp},vs.length=bs.length->RTs K G H (vs++ts) (bs.map TV.av++as) p->∃ a p2:Fp,(∀ b,p b=a b+p2 b)/\RAs K G H vs bs a/\RTs K G H ts as p2
 | [],[],p,_,r=>⟨λ_=>0,p,λb=>by simp,.nil λ_=>rfl,r⟩
 | w::vs,b::bs,p,e,r=>by
  cases r with
  | @cons _ _ _ _ g n _ f rs m =>
   obtain⟨a,p2,j,i,h⟩:=RTs.avs (xs:=xs) (by simpa using e) rs
   cases f with
   | av f=>exact⟨λc=>g c+a c,p2,λc=>by have:=m c;have:=j c;dsimp only;omega,.cons f i (λ_=>rfl),h⟩
theorem W1{o:HO}(h:∀ b u,p b+q b=0->H b=some u->p' b+q' b=0/\b≠l):Zf (hid H p q) (hid (upd H l o) p' q'):=λb u e=>by
 unfold hid at e ⊢
 split at e
 ·rename_i z
  obtain⟨c,a⟩:=h b u z e
  rw[if_pos c,Zn a]
  exact e
 ·cases e
theorem SR.new(h:SR K H0 σ ρ (vs++ts) (xs.map TV.av++as) H)(e:vs.length=xs.length)(hl:H l=none):SR K H0 σ ρ (.ref l::ts) (.av (.own xs)::as) (upd H l (.lst vs)):=by
 obtain⟨⟨p,q,r,n,A,x⟩,s⟩:=h
 have v:=SR.lsts r n
 obtain⟨i,g,c,C,B⟩:=RTs.avs (xs:=xs) e n
 have z:∀ b u,H b=some u->b≠l:=λb u y w=>by subst w;rw[hl] at y;cases y
 have E:p l+q l=0:=by
  rcases Nat.eq_zero_or_pos (p l+q l) with w|w
  ·exact w
  ·obtain⟨_,w,_⟩:=v l w;rw[hl] at w;cases w
 have m:Zf (hid H p q) (hid (upd H l (.lst vs)) p (λb=>((if b=l then 1 else 0)+i b)+g b)):=W1 λb u y w=>by
  have:=z b u w
  refine⟨?_,this⟩
  have:=c b
  simp[*] at *
  omega
 have j:∀ b u,H b=some u->upd H l (.lst vs) b=some u:=λb u y=>by rw[Zn (z b u y)];exact y
 have f:Zf H (upd H l (.lst vs)):=YQ hl
 refine⟨⟨p,λb=>((if b=l then 1 else 0)+i b)+g b,r.mono m (λb o _=>j b o),.cons (.av (.own ZF (C.mono m λb o _=>j b o) λ_=>rfl)) (B.mono m f) (λ_=>rfl),λb=>?_,λb w=>?_⟩,s.trans f⟩
 ·have:=c b;have:=A b
  by_cases a:b=l
  ·subst a;simp;omega
  ·simp[a];omega
 ·by_cases a:b=l
  ·subst a;exact s.free hl
  ·refine x b ?_;have:=c b;simp[a] at w;omega
end
variable [Tabs]
mutual
def AV.clean:AV->Bool
 | .d x=>ZE x
 | .own xs=>AV.cleans xs
 | .tup xs=>AV.cleans xs
 | .dic kvs=>noLsts (kvs.map Prod.snd)
 | .obj _=>false
def AV.cleans:List AV->Bool
 | []=>true
 | x::xs=>x.clean && AV.cleans xs
end
def Rs(K:W.Frag)(H H':Hp)(v:V)(a:AV):Prop:=Zf H H'/\∃ p:Fp,(∀ b,p b<=1)/\(∀ b,0<p b->H b=none)/\RA K (hid H' p λ_=>0) H' v a p
variable{c a':AV}{φ:V->Hp->Prop}
section
variable{x y:V}{a b:TV}
theorem RA.clB(hl:∀ b,0<p' b+q' b->∃ o,H b=some o/\Mu o):(∀ {v:V} {a:AV} {r:Fp},RA K (hid H p q) H v a r->a.clean=true->RA K (hid H p' q') H v a r)/\∀ {vs:List V} {xs:List AV} {r:Fp},RAs K (hid H p q) H vs xs r->AV.cleans xs=true->RAs K (hid H p' q') H vs xs r:=by
 refine RA.ind (M:=λv a r=>a.clean=true->RA K (hid H p' q') H v a r) (N:=λvs xs r=>AV.cleans xs=true->RAs K (hid H p' q') H vs xs r) (λr e c=>.d (Rep.hid hl (by simpa [AV.clean] using c) (r.same Ym)) e) (λh i e c=>.own h (i (by simpa [AV.clean] using c)) e) (λh i c=>.tup (Oa hl (Ym _ _ h)) (i (by simpa [AV.clean] using c))) (λ{a o kvs qq} h d e c=>.dic h ?_ e) (λ_ _ _ c=>by simp[AV.clean] at c) (λe _=>.nil e) λi j e c=>?_
 ·have s:noLsts (kvs.map Prod.snd)=true:=by simpa [AV.clean] using c
  have f:∀ {m:Type} {ks:List (m×V)} {ds:List PyData} {en:m->PyData},Reps K (hid H p q) (ks.map Prod.snd) ds->kvs=(ks.map λp=>en p.1).zip ds->Reps K (hid H p' q') (ks.map Prod.snd) ds:=λr z=>by
   rw[z,List.map_snd_zip (by rw[length_map,<- r.length,length_map];exact Nat.le_refl _)] at s
   exact Reps.hid hl s (r.same Ym)
  rcases d with⟨ks,ds,g,r,z⟩|⟨ks,ds,g,r,z⟩|⟨ks,ds,n,g,r,z⟩
  ·exact .inl ⟨ks,ds,g,f r z,z⟩
  ·exact .inr (.inl ⟨ks,ds,g,f (en:=λk=>PyData.tuple (k.map Zx)) r z,z⟩)
  ·exact .inr (.inr ⟨ks,ds,n,g,f (en:=λk=>PyData.tuple [Zx k.1,.tuple (k.2.map Zx)]) r z,z⟩)
 ·simp only[AV.cleans,Bool.and_eq_true] at c
  exact .cons (i c.1) (j c.2) e
theorem RA.cl(hl:∀ b,0<p' b+q' b->∃ o,H b=some o/\Mu o){a:AV}{r:Fp}(c:a.clean=true)(h:RA K (hid H p q) H v a r):RA K (hid H p' q') H v a r:=(RA.clB hl).1 h c
theorem RAs.cl(hl:∀ b,0<p' b+q' b->∃ o,H b=some o/\Mu o){r:Fp}(a:AV.cleans xs=true)(h:RAs K (hid H p q) H vs xs r):RAs K (hid H p' q') H vs xs r:=(RA.clB hl).2 h a
theorem SR.got(h:SR K H0 σ ρ ts as H)(r:Rs K H H' v c)(B:c.clean=true):SR K H0 σ ρ (v::ts) (.av c::as) H':=by
 obtain⟨e,a,A,f,g⟩:=r
 obtain⟨⟨p,q,n,j,E,C⟩,s⟩:=h
 have i:=SR.lsts n j
 have z:∀ b,0<p b+q b->a b=0:=λb w=>by
  obtain⟨vs,y,_⟩:=i b w
  rcases Nat.eq_zero_or_pos (a b) with u|u
  ·exact u
  ·rw[f b u] at y;cases y
 have m:Zf (hid H p q) (hid H' p (λb=>a b+q b)):=λb o w=>by
  unfold hid at w ⊢
  split at w
  ·rename_i y
   have:a b=0:=by
    rcases Nat.eq_zero_or_pos (a b) with u|u
    ·exact u
    ·rw[f b u] at w;cases w
   rw[if_pos (show p b+(a b+q b)=0 by omega)]
   exact e b o w
  ·cases w
 refine⟨⟨p,λb=>a b+q b,n.mono m (λb o _=>e b o),.cons (.av (RA.cl (p':=p) (q':=λb=>a b+q b) (λb w=>?_) B g)) (j.mono m e) (λ_=>rfl),λb=>?_,λb w=>?_⟩,s.trans e⟩
 ·rcases Nat.eq_zero_or_pos (a b) with u|u
  ·have x:0<p b+(a b+q b):=w
   obtain⟨vs,y,mu⟩:=i b (by omega);exact⟨vs,e _ _ y,mu⟩
  ·exact g.lst b u
 ·have:=E b;have:=A b;have:=z b
  show p b+(a b+q b)<=1
  omega
 ·rcases Nat.eq_zero_or_pos (a b) with u|u
  ·have x:0<p b+(a b+q b):=w
   exact C b (by omega)
  ·exact s.free (f b u)
theorem SR.gotB(h:SR K H0 σ ρ ts as H)(r:Rs K H H' v c):SR K H0 σ ρ (v::ts) (.bor c.data::as) H':=by
 obtain⟨e,b,_,_,a⟩:=r
 exact (h.ext e).pushB (a.rep Ym)
def Yn(ρ:Sl):Prop:=∀ a∈ρ,∀ x,a=some x->(∃ d,x=.d d)\/∃ φ,x=.obj φ
theorem Yn.nil:Yn []:=λ_ h=>nomatch h
theorem Yn.no(h:Yn ρ):Yn (none::ρ):=λb a x z=>by
 rcases mem_cons.mp a with e|e
 ·subst e;cases z
 ·exact h b e x z
theorem Yn.d{d:PyData}(h:Yn ρ):Yn (some (.d d)::ρ):=λb a x z=>by
 rcases mem_cons.mp a with e|e
 ·subst e;cases z;exact .inl ⟨d,rfl⟩
 ·exact h b e x z
theorem Yn.o(h:Yn ρ):Yn (some (.obj φ)::ρ):=λb a x z=>by
 rcases mem_cons.mp a with e|e
 ·subst e;cases z;exact .inr ⟨φ,rfl⟩
 ·exact h b e x z
theorem RSl.noOwn(r:RSl K G H σ ρ p)(h:Yn ρ):∀ b,p b=0:=by
 induction r with
 | nil e=>exact e
 | no _ f=>exact f λa c=>h a (.tail _ c)
 | so i _ e f =>
  rcases h _ (.head _) _ rfl with⟨d,rfl⟩|⟨j,rfl⟩
  ·intro b
   have:=f (λa c=>h a (.tail _ c)) b
   cases i with
   | d _ g=>have:=e b;have:=g b;omega
  ·intro b
   have:=f (λa c=>h a (.tail _ c)) b
   cases i with
   | obj _ _ g=>have:=e b;have:=g b;omega
theorem RTs.stb(r:RTs K G H ts as p)(h:Stb as):∀ b,p b=0:=by
 induction r with
 | nil e=>exact e
 | cons r _ e f =>
  obtain⟨d,rfl⟩:=h _ (.head _)
  intro b
  have:=f (λa g=>h a (.tail _ g)) b
  cases r with
  | av c=>cases c with
   | d _ i=>have:=e b;have:=i b;omega
def Sto(ρ:Sl)(a:TV)(a':AV):Prop:=a.sto=some a'\/(∃ c,a=.av c/\a'=.d c.data)\/(Yn ρ/\(∃ x,a=.bor x)/\a'=.d a.data)
theorem SR.stoS(h:SR K H0 σ ρ (v::ts) (a::as) H)(m:Stb as)(e:Sto ρ a a'):SR K H0 σ ρ (v::ts) (.av a'::as) H:=by
 rcases e with e|⟨c,rfl,rfl⟩|⟨n,⟨x,rfl⟩,rfl⟩
 ·exact h.sto e
 ·exact h.frzT
 ·have t:=h.top (a:=.bor x) λ_ z=>nomatch z
  obtain⟨⟨p,q,g,f,u,r⟩,s⟩:=h.pop
  have j:=g.noOwn n
  have i:=f.stb m
  refine⟨⟨p,q,g,.cons (.av (.d (p:=λ_=>0) (t.same λb o w=>?_) λ_=>rfl)) f (λb=>by simp),u,r⟩,s⟩
  unfold hid
  rw[if_pos (by have:=j b;have:=i b;omega)]
  exact w
end
def Wg(K:W.Frag)(J:It)(u:V)(z:PyData)(n:Nat)(f:Nat->PyData):Prop :=
 ∀ G H,Zf G H->Rep K G u z->(∀ i,i<n->J.go i H/\∀ x H',J.yld i H x H'->Zf H H'/\∀ G',Zf G G'->(∀ b o,H' b=some o->H b=none->G' b=some o)->Rep K G' x (f i))/\∀ i,n<=i->J.stop i H
def TV.frz:TV->TV
 | .av a=>.av (.d a.data)
 | .bor x=>.bor x
 | .raw v=>.raw v
section
variable (K:W.Frag)(E:FK)(X:Exc->Sl->Prop)
def Iv(wi:TI)(ρ:Sl)(Q:Nat->(Nat->PyData)->TV->Prop):Prop :=
 ∀ (H0:Hp) (σ:St) (ts:List V) (as:List TV) (H:Hp) (R:It->Hp->Prop),SR K H0 σ ρ ts as H->XOk K E X H0 ->
  (∀ n f h,Q n f h->∀ u J H',(∀ v,h≠.raw v)->SR K H0 σ ρ (u::ts) (h::as) H'->Wg K J u h.data n f->R J H')->wi σ H R
def Gv(g:TG)(x:PyData)(ρ:Sl)(P:Sl->Prop):Prop :=
 ∀ (H0:Hp) (σ:St) (ts:List V) (as:List TV) (H:Hp) (v:V) (Qg:St->Hp->Prop),SR K H0 σ ρ (v::ts) (.av (.d x)::as) H->(∀ ρ',P ρ'->∀ σ' H',SR K H0 σ' ρ' ts as H'->Qg σ' H')->g v σ H Qg
end
def Wk(ρ ρ':Sl):Prop:=∀ (K:W.Frag) (H0:Hp) (σ:St) (ts:List V) (as:List TV) (H:Hp),SR K H0 σ ρ ts as H->SR K H0 σ ρ' ts as H
variable{DV:VEnds}{y:PyData}
section
variable{E:FK}{X:Exc->Sl->Prop}{Q:TV->Prop}{ta tb:TE}{i j:Int}{t u:TS}{a b:TV}
theorem VH{b:TV->Prop}(h:Ev K E X te ρ Q)(m:∀ a,Q a->b a):Ev K E X te ρ b:=λg c ts as H f s x q=>h g c ts as H f s x λa e=>q a (m a e)
theorem SR.var{i:Nat}{a:AV}(s:SR K H0 σ ρ ts as H)(h:ρ[i]?=some (some a)):∃ v,σ[i]?=some (some v)/\(∀ x,a=.d x->SR K H0 σ ρ (v::ts) (.av (.d x)::as) H)/\SR K H0 σ ρ (v::ts) (.bor a.data::as) H:=by
 obtain⟨⟨p,q,c,j,g,f⟩,e⟩:=s
 obtain⟨w,u,v,A,r,m,y⟩:=c.frz h λ_ _ _ _=>trivial
 refine⟨v,r,λx z=>?_,SR.pushB ⟨⟨p,q,c,j,g,f⟩,e⟩ (m.rep Ym)⟩
 subst z
 cases m with
 | d n z=>exact⟨⟨p,q,c,.cons (.av (.d (p:=λ_=>0) n λ_=>rfl)) j (λb=>by simp),g,f⟩,e⟩
theorem Xy{x:PyData}(h:ρ[n]?=some (some (.d x)))(q:Q (.av (.d x))):Ev K E X (Zu n) ρ Q:=λf c ts as H e s _ k=>by
 obtain⟨v,b,a,_⟩:=s.var h
 exact⟨v,b,k _ q v H (a x rfl)⟩
theorem W2{a:AV}(h:ρ[n]?=some (some a))(q:Q (.bor a.data)):Ev K E X (Zu n) ρ Q:=λg e ts as H f s _ k=>by
 obtain⟨v,c,_,b⟩:=s.var h
 exact⟨v,c,k _ q v H b⟩
theorem Jg(q:Q (.av (.d (.int i)))):Ev K E X (tC (.int i)) ρ Q:=λc a ts as H b s _ k=>k _ q _ H (s.int i)
theorem Jh{c:Str}(q:Q (.av (.d (.str c)))):Ev K E X (tC (.str c)) ρ Q:=λe a ts as H b s _ k=>k _ q _ H (s.push λ_=>.str c)
theorem Ji(q:Q (.av (.d .none))):Ev K E X (tC .non) ρ Q:=λc a ts as H b s _ k=>k _ q _ H (s.push λ_=>.non)
theorem Jj(h:Ev K E X ta ρ λa=>Ev K E X tb ρ λb=>Op K E X r a b Q):Ev K E X (tOp r ta tb) ρ Q:=λe c ts as H m s x k =>
 h e c ts as H _ s x λa j v p g=>j e c _ _ p _ g x λb i w n f=>i e c ρ ts as n v w m f x k
theorem Jk{r:V->Hp->VK->Prop}(h:Ev K E X ta ρ λa=>Un1 K E X r a Q):Ev K E X (tUn r ta) ρ Q:=λc b ts as H g s x k =>
 h c b ts as H _ s x λa f v i e=>f c b ρ ts as i v g e x k
theorem un_i{g:Int->Int}(q:Q (.av (.d (.int (g i))))):Un1 K E X (rU λi=>.int (g i)) (.av (.d (.int i))) Q:=λf a b ts as H x c s _ k=>by
 have e:=s.top_d.int_inv
 subst e
 exact⟨i,rfl,k _ q _ H (s.pop.int _)⟩
theorem ints2{x y:V}(s:SR K H0 σ ρ (y::x::ts) (.av (.d (.int j))::.av (.d (.int i))::as) H):x=.int i/\y=.int j/\SR K H0 σ ρ ts as H :=
 ⟨s.pop.top_d.int_inv,s.top_d.int_inv,s.pop.pop⟩
theorem Ob{g:Int->Int->Int}(q:Q (.av (.d (.int (g i j))))):Op K E X (rI0 λi j=>.int (g i j)) (.av (.d (.int i))) (.av (.d (.int j))) Q:=λf b c ts as H x y e s _ k=>by
 obtain⟨rfl,rfl,a⟩:=ints2 s
 exact⟨i,j,rfl,rfl,k _ q _ H (a.int _)⟩
theorem Jl{g:Int->Int->Bool}(q:Q (.av (.d (.bool (g i j))))):Op K E X (rI0 λi j=>.bl (g i j)) (.av (.d (.int i))) (.av (.d (.int j))) Q:=λf b c ts as H x y e s _ k=>by
 obtain⟨rfl,rfl,a⟩:=ints2 s
 exact⟨i,j,rfl,rfl,k _ q _ H (a.bl _)⟩
theorem S6{C:Int->Int->Prop}{g:Int->Int->Int}(c:C i j)(q:Q (.av (.d (.int (g i j))))):Op K E X (rI C λi j=>.int (g i j)) (.av (.d (.int i))) (.av (.d (.int j))) Q:=λh b e ts as H x y f s _ k=>by
 obtain⟨rfl,rfl,a⟩:=ints2 s
 exact⟨i,j,rfl,rfl,c,k _ q _ H (a.int _)⟩
theorem Jm(q:Q (.av (.d (.bool (decide (i=j)))))):Op K E X rEq (.av (.d (.int i))) (.av (.d (.int j))) Q:=λf b c ts as H x y e s _ k=>by
 obtain⟨rfl,rfl,a⟩:=ints2 s
 exact KR (k _ q _ H (a.bl _))
theorem Jn(q:Q (.av (.d (.bool (!decide (i=j)))))):Op K E X rNe (.av (.d (.int i))) (.av (.d (.int j))) Q:=λf b c ts as H x y e s _ k=>by
 obtain⟨rfl,rfl,a⟩:=ints2 s
 exact KS (k _ q _ H (a.bl _))
theorem Rep.bl_inv{c:Bool}(h:Rep K H v (.bool c)):v=.bl c:=by cases h;rfl
def NR(a:TV):Prop:=∀ v,a≠.raw v
theorem NR.av{c:AV}:NR (.av c):=λ_ z=>nomatch z
theorem NR.bor{c:PyData}:NR (.bor c):=λ_ z=>nomatch z
theorem Jo[DecidableEq α]{c d:α}(F:Enc f m)(h:a.data=f c)(hb:b.data=f d)(q:Q (.av (.d (.bool (decide (c=d))))))(na:NR a:=by first|exact NR.av|exact NR.bor)(e:NR b:=by first|exact NR.av|exact NR.bor)(g:m<=32:=by decide):Op K E X (VA K) a b Q:=λp i j ts as H x y n s _ k =>
 KW F (h▸s.pop.top na) (hb▸s.top e) (k _ q _ H (s.pop.pop.bl _)) g
theorem Jp[DecidableEq α]{c d:α}(F:Enc f m)(h:a.data=f c)(hb:b.data=f d)(q:Q (.av (.d (.bool (!decide (c=d))))))(na:NR a:=by first|exact NR.av|exact NR.bor)(e:NR b:=by first|exact NR.av|exact NR.bor)(g:m<=32:=by decide):Op K E X (WZ K) a b Q:=λp i j ts as H x y n s _ k =>
 KY F (h▸s.pop.top na) (hb▸s.top e) (k _ q _ H (s.pop.pop.bl _)) g
theorem Reps.atI{H:Hp}{vs:List V}{ds:List PyData}{k:Int}{y:PyData}(h:Reps K H vs ds)(e:atI ds k=some y):∃ v,L2.atI vs k=some v/\Rep K H v y:=by
 unfold L2.atI at e ⊢
 rw[h.length]
 cases z:ixN ds.length k with
 | none=>rw[z] at e;cases e
 | some j =>
  rw[z] at e
  obtain⟨v,b,a⟩:=h.get (i:=j) (d:=y) e
  exact⟨v,b,a⟩
def Zs(a:TV)(y:PyData)(c:TV):Prop:=(a=.av (.d a.data)/\c=.av (.d y))\/(ZE y=true/\c=.av (.d y))\/c=.bor y
theorem SR.item{x:V}{a c:TV}(s:SR K H0 σ ρ (x::ts) (a::as) H)(na:NR a)(it:Zs a y c)(P:V->Prop)(h:∀ G,Rep K G x a.data->Zf G H->∃ v,P v/\Rep K G v y):∃ v,P v/\SR K H0 σ ρ (v::ts) (c::as) H:=by
 rcases it with⟨e,rfl⟩|⟨i,rfl⟩|rfl
 ·rw[e] at s
  obtain⟨⟨p,q,u,n,m,j⟩,A⟩:=s
  cases n with
  | cons r rs z=>cases r with
   | av r=>cases r with
    | d g w =>
     obtain⟨v,f,b⟩:=h _ g Ym
     exact⟨v,f,⟨p,q,u,.cons (.av (.d b w)) rs z,m,j⟩,A⟩
 ·obtain⟨v,f,b⟩:=h _ (s.top na) (.refl H)
  exact⟨v,f,s.pop.pushF i b⟩
 ·obtain⟨v,f,b⟩:=h _ (s.top na) (.refl H)
  exact⟨v,f,s.pop.pushB b⟩
theorem Zs.d{x y:PyData}:Zs (.av (.d x)) y (.av (.d y)):=.inl ⟨rfl,rfl⟩
theorem Zs.flat(h:ZE y=true):Zs a y (.av (.d y)):=.inr (.inl ⟨h,rfl⟩)
theorem Jq{c:TV}{k:Int}(i:a.data=.list ds)(e:atI ds k=some y)(it:Zs a y c)(q:Q c)(na:NR a:=by first|exact NR.av|exact NR.bor):Op K E X (WV K) a (.av (.d (.int k))) Q:=λL F I ts as H x w J s _ h=>by
 have C:=s.top_d.int_inv
 subst C
 obtain⟨v,⟨p,xs,B,A,u⟩,g⟩:=s.pop.item na it (λv=>∃ p xs,x=.ref p/\SqL K H p xs/\L2.atI xs k=some v) λG b f=>by
  rw[i] at b
  obtain⟨p,xs,rfl,r,n⟩:=b.list_inv
  obtain⟨v,m,j⟩:=Reps.atI n e
  exact⟨v,⟨p,xs,rfl,f.seq r,m⟩,j⟩
 exact⟨p,xs,k,v,B,rfl,A,u,h _ q _ H g⟩
theorem Jr{c:TV}{k:Int}(i:a.data=.tuple ds)(e:atI ds k=some y)(it:Zs a y c)(q:Q c)(na:NR a:=by first|exact NR.av|exact NR.bor):Op K E X (UR K) a (.av (.d (.int k))) Q:=λL F I ts as H x w J s _ h=>by
 have C:=s.top_d.int_inv
 subst C
 obtain⟨v,⟨p,xs,B,A,u⟩,g⟩:=s.pop.item na it (λv=>∃ p xs,x=.ref p/\SqT K H p xs/\L2.atI xs k=some v) λG b f=>by
  rw[i] at b
  obtain⟨p,xs,rfl,r,n⟩:=b.tuple_inv
  obtain⟨v,m,j⟩:=Reps.atI n e
  exact⟨v,⟨p,xs,rfl,f.tupS r,m⟩,j⟩
 exact⟨p,xs,k,v,B,rfl,A,u,h _ q _ H g⟩
theorem Oc{P:List TV->Prop}(q:P []):Ea K E X YL ρ P:=λc a ts as H b s _ k=>k [] q [] H s rfl
theorem Js{A:TA}{P:List TV->Prop}(h:Ev K E X ta ρ λa=>Ea K E X A ρ λbs=>P (a::bs)):Ea K E X (YZ ta A) ρ P:=λe b ts as H p s x k =>
 h e b ts as H _ s x λa j v n g=>j e b _ _ n _ g x λbs i vs m f c=>k (a::bs) i (v::vs) m (f.rot c) (by simp[c])
theorem Jt{r:List V->Hp->VK->Prop}{A:TA}(h:Ea K E X A ρ λbs=>Bi K E X r bs Q):Ev K E X (tCB r A) ρ Q:=λb a ts as H g s x k =>
 h b a ts as H _ s x λbs e vs i c f=>e b a ρ ts as i vs g c f x k
theorem Stos.len{bs:List TV}(h:Stos bs xs):bs.length=xs.length:=by
 induction h with
 | nil=>rfl
 | cons _ _ a=>simp[a]
theorem Yj{A:TA}(h:Ea K E X A ρ λbs=>∃ xs,Stos bs xs/\bs.length<=1000/\Q (.av (.own xs))):Ev K E X (SG A) ρ Q:=λc a ts as H e s x k =>
 h c a ts as H _ s x λbs ⟨xs,hs,hz,q⟩ vs H2 s2 hl=>⟨Nat.le_of_lt (small1000 (by omega)),λp b=>k _ q _ _ (SR.new (SR.stos (us:=[]) (cs:=[]) hs hl rfl s2) (by rw[hl,hs.len]) b)⟩
theorem SR.newT(h:SR K H0 σ ρ (vs++ts) (xs.map TV.av++as) H)(e:vs.length=xs.length)(hl:H l=none):SR K H0 σ ρ (.ref l::ts) (.av (.d (.tuple (AV.datas xs)))::as) (upd H l (.tup vs)):=by
 obtain⟨⟨p,q,j,i,g,r⟩,s⟩:=h
 have n:=SR.lsts j i
 obtain⟨A,f,c,v,u⟩:=RTs.avs (xs:=xs) e i
 have a:Zf H (upd H l (.tup vs)):=YQ hl
 have x:p l+q l=0:=by
  rcases Nat.eq_zero_or_pos (p l+q l) with w|w
  ·exact w
  ·obtain⟨_,w,_⟩:=n l w;rw[hl] at w;cases w
 have m:Zf (hid H p q) (hid (upd H l (.tup vs)) p f):=(hid_more (p':=p) (q':=f) λb z=>by have:=c b;omega).trans (W0 a)
 refine⟨⟨p,f,j.mono m (λb o _=>a b o),.cons (.av (.d (p:=λ_=>0) (.tup ?_ (v.frz m λb o y z=>?_)) λ_=>rfl)) (u.mono m a) (λb=>by simp),λb=>by have:=c b;have:=g b;omega,λb z=>r b (by have:=c b;omega)⟩,s.trans a⟩
 ·unfold hid;rw[if_pos (by have:=c l;omega)];exact ZF
 ·unfold hid;rw[if_pos (by have:=c b;have:=g b;omega)];exact a b o z
theorem Yg{A:TA}(h:Ea K E X A ρ λbs=>∃ xs,Stos bs xs/\bs.length<=1000/\Q (.av (.d (.tuple (AV.datas xs))))):Ev K E X (SF A) ρ Q:=λc a ts as H e s x k =>
 h c a ts as H _ s x λbs ⟨xs,hs,hz,q⟩ vs H2 s2 hl=>⟨Nat.le_of_lt (small1000 (by omega)),λp b=>k _ q _ _ (SR.newT (SR.stos (us:=[]) (cs:=[]) hs hl rfl s2) (by rw[hl,hs.len]) b)⟩
theorem Od{P:Bool->Prop}(h:Ev K E X te ρ λa=>∃ c,a=.av (.d (.bool c))/\P c):Tv K E X (Pf te) ρ P:=λf b ts as H g s x k =>
 h f b ts as H _ s x λa ⟨c,e,p⟩ v H' s'=>by subst e;exact⟨c,Rep.bl_inv s'.top_d,k c p H' s'.pop⟩
theorem tv_b{P:Bool->Prop}(h:Ev K E X te ρ λa=>∃ c,a=.av (.d (.bool c))/\P c):Tv K E X (tB te) ρ P:=Od h
theorem Ju{g f:TT}{P:Bool->Prop}(h:Tv K E X g ρ λc=>if c=true then Tv K E X f ρ P else P false):Tv K E X (tAnd g f) ρ P:=λi b ts as H m s x k =>
 h i b ts as H _ s x λc a j e=>by
  cases c with
  | true=>rw[if_pos rfl] at a ⊢;exact a i b ts as j m e x k
  | false=>rw[if_neg Bool.false_ne_true] at a ⊢;exact k _ a j e
theorem Jv{g f:TT}{P:Bool->Prop}(h:Tv K E X g ρ λc=>if c=true then P true else Tv K E X f ρ P):Tv K E X (tOr g f) ρ P:=λi b ts as H m s x k =>
 h i b ts as H _ s x λc a j e=>by
  cases c with
  | true=>rw[if_pos rfl] at a ⊢;exact k _ a j e
  | false=>rw[if_neg Bool.false_ne_true] at a ⊢;exact a i b ts as j m e x k
theorem Tc{P:Bool->Prop}(q:P true):Tv K E X WY ρ P:=λc a ts as H b s x k=>k _ q H s
theorem Jw{c:TT}(h:Tv K E X c ρ λb=>if b=true then Ev K E X ta ρ Q else Ev K E X tb ρ Q):Ev K E X (tIf c ta tb) ρ Q:=λf e ts as H i s x k =>
 h f e ts as H _ s x λc a j g=>by
  cases c with
  | true=>rw[if_pos rfl] at a ⊢;exact a f e ts as j i g x k
  | false=>rw[if_neg Bool.false_ne_true] at a ⊢;exact a f e ts as j i g x k
theorem Jx(h:Sv K E X t ρ { DV with nx:=λa=>Sv K E X u a DV }):Sv K E X (Sw t u) ρ DV:=λe g ts as H D c s x f =>
 h e g ts as H { D with nx:=u D } c s x ⟨λa q b j i=>q e b ts as j D c i x f,f.bk,f.ct,f.rt⟩
theorem Oe(h:DV.nx ρ):Sv K E X UM ρ DV:=λc a ts as H D b s x f=>f.nx ρ h a H s
theorem Jy(h:Ev K E X te ρ λ_=>DV.nx ρ):Sv K E X (YK te) ρ DV:=λe b ts as H D i s x f =>
 h e b ts as H _ s x λa q v g c=>f.nx ρ q b g c.pop
theorem Jz(h:Ev K E X te ρ DV.rt):Sv K E X (WS te) ρ DV:=λe b ts as H D i s x f =>
 h e b ts as H _ s x λa q v g c=>f.rt a q v b ρ g c
theorem S7{c:TT}(h:Tv K E X c ρ λb=>if b=true then Sv K E X t ρ DV else Sv K E X u ρ DV):Sv K E X (V8 c t u) ρ DV:=λg e ts as H D i s x f =>
 h g e ts as H _ s x λc a m j=>by
  cases c with
  | true=>rw[if_pos rfl] at a ⊢;exact a g e ts as m D i j x f
  | false=>rw[if_neg Bool.false_ne_true] at a ⊢;exact a g e ts as m D i j x f
theorem Xz(h:Ev K E X te ρ λa=>∃ a',Sto ρ a a'/\DV.nx (ρ.set n (some a')))(hn:n<ρ.length:=by simp):Sv K E X (Yc te (ZR n)) ρ DV:=λg b ts as H D c s x f =>
 h g b ts as H _ s x λa ⟨a',e,q⟩ v H' s'=>f.nx _ q _ H' ((s'.stoS c e).store hn)
theorem XT{x:PyData}{P:Sl->Prop}(h:P (ρ.set n (some (.d x))))(hn:n<ρ.length:=by simp):Gv K (ZR n) x ρ P:=λc a ts as H v b s k=>k _ h _ H (s.store hn)
end
variable [Tabs]
theorem small6(h:n<=1000000):n<sizeLine:=Nat.lt_of_le_of_lt h (by decide)
variable{xs' ys:List AV}
section
variable{y:V}{b:TV}
theorem RAs.len:∀ {vs:List V} {xs:List AV} {p:Fp},RAs K G H vs xs p->vs.length=xs.length
 | _,_,_,.nil _=>rfl
 | _,_,_,.cons _ rs _=>by simp[RAs.len rs]
theorem RAs.snoc{w:V}{c:AV}{q:Fp}(r:RA K G H w c q):∀ {vs:List V} {xs:List AV} {p:Fp},RAs K G H vs xs p->RAs K G H (vs++[w]) (xs++[c]) (λb=>p b+q b)
 | _,_,_,.nil e=>.cons r (.nil (p:=λ_=>0) λ_=>rfl) (λb=>by have:=e b;simp;omega)
 | _,_,_,.cons (p:=p1) (q:=q1) r1 rs e=>.cons r1 (RAs.snoc r rs) (λb=>by have:=e b;show _+q b=p1 b+(q1 b+q b);omega)
theorem RAs.set{w:V}{c:AV}{q:Fp}(r:RA K G H w c q):∀ {vs:List V} {xs:List AV} {p:Fp} (j:Nat),RAs K G H vs xs p->∃ p':Fp,(∀ b,p' b<=p b+q b)/\RAs K G H (vs.set j w) (xs.set j c) p'
 | _,_,p,j,.nil e=>⟨p,λb=>by omega,.nil e⟩
 | _,_,_,0,.cons (q:=q1) r1 rs e=>⟨λb=>q b+q1 b,λb=>by have:=e b;dsimp only;omega,.cons r rs λ_=>rfl⟩
 | _,_,_,j+1,.cons (p:=p1) r1 rs e=>by
  obtain⟨p',f,a⟩:=RAs.set r j rs
  exact⟨λb=>p1 b+p' b,λb=>by have:=e b;have:=f b;dsimp only;omega,.cons r1 a λ_=>rfl⟩
theorem RAs.rev:∀ {vs:List V} {xs:List AV} {p:Fp},RAs K G H vs xs p->∃ p':Fp,(∀ b,p' b=p b)/\RAs K G H vs.reverse xs.reverse p'
 | _,_,p,.nil e=>⟨p,λ_=>rfl,.nil e⟩
 | _,_,_,.cons (p:=p1) r1 rs e=>by
  obtain⟨p',c,a⟩:=RAs.rev rs
  refine⟨λb=>p' b+p1 b,λb=>by have:=e b;have:=c b;dsimp only;omega,?_⟩
  rw[reverse_cons,reverse_cons]
  exact RAs.snoc r1 a
theorem SR.writeE(h:SR K H0 σ ρ (v::ts) (.av c::as) H)(R:Stb as)(hi:ρ[i]?=some (some (.own xs))) :
  ∃ l vs,σ[i]?=some (some (.ref l))/\H l=some (.lst vs)/\vs.length=xs.length/\∀ a,(∀ G H' p q,(∀ b o,0<q b->H b=some o->H' b=some o)->RAs K G H' vs xs p->RA K G H' v c q->∃ p':Fp,(∀ b,p' b<=p b+q b)/\RAs K G H' a xs' p')->SR K H0 σ (ρ.set i (some (.own xs'))) ts as (upd H l (.lst a)):=by
 obtain⟨⟨p,q,T,S,j,B⟩,s⟩:=h
 obtain⟨I,f,w,e,E,W,U⟩:=T.frz hi λ_ _ _ _=>trivial
 cases S with
 | @cons _ _ _ _ X n _ r rs eq =>
  cases r with
  | av r =>
  cases W with
  | @own l vs _ x _ Q A C =>
   refine⟨l,vs,E,Q,A.len,λa O=>?_⟩
   have P:I l=1+x l:=by have:=C l;simpa using this
   have ne:∀ b u,p b+q b=0->H b=some u->b≠l:=λb u z _ y=>by subst y;have:=e b;omega
   have g:Zf (hid H p q) (hid (upd H l (.lst a)) p q):=W1 λb u z w=>⟨z,ne b u z w⟩
   have N:∀ b o,0<x b->H b=some o->upd H l (.lst a) b=some o:=λb o z w=>by
    rw[Zn (λy=>by subst y;have:=j b;have:=e b;omega)];exact w
   have m:∀ b o,0<q b->H b=some o->upd H l (.lst a) b=some o:=λb o z w=>by
    rw[Zn (λy=>by subst y;have:=j b;have:=e b;omega)];exact w
   have M:∀ b o,0<f b->H b=some o->upd H l (.lst a) b=some o:=λb o z w=>by
    rw[Zn (λy=>by subst y;have:=j b;have:=e b;omega)];exact w
   obtain⟨p',L,J⟩:=O _ _ _ _ (λb o z=>m b o (by have:=eq b;omega)) (A.mono g N) (r.mono g λb o z=>m b o (by have:=eq b;omega))
   have z:=U (hid (upd H l (.lst a)) p q) (upd H l (.lst a)) (.ref l) (.own xs') (λb=>(if b=l then 1 else 0)+p' b) (λb=>((if b=l then 1 else 0)+p' b)+f b) g M (.own ZF J λ_=>rfl) (λ_=>rfl)
   rw[Um E] at z
   have F:Zf H0 (upd H l (.lst a)):=s.updF (B l (by have:=e l;omega))
   refine SR.of_le (p:=p) (q:=q) (p':=λb=>((if b=l then 1 else 0)+p' b)+f b) (q':=n) F j B (λb=>?_) z (rs.monoS g R λb o y=>m b o (by have:=eq b;omega))
   have:=L b;have:=C b;have:=e b;have:=eq b
   show ((if b=l then 1 else 0)+p' b)+f b+n b<=p b+q b
   omega
theorem SR.write(h:SR K H0 σ ρ (v::ts) (.av c::as) H)(f:Stb as)(hi:ρ[i]?=some (some (.own xs))) :
  ∃ l vs,σ[i]?=some (some (.ref l))/\H l=some (.lst vs)/\vs.length=xs.length/\∀ a,(∀ G H p q,RAs K G H vs xs p->RA K G H v c q->∃ p':Fp,(∀ b,p' b<=p b+q b)/\RAs K G H a xs' p')->SR K H0 σ (ρ.set i (some (.own xs'))) ts as (upd H l (.lst a)):=by
 obtain⟨l,vs,n,m,j,g⟩:=h.writeE (xs':=xs') f hi
 exact⟨l,vs,n,m,j,λa e=>g a λG r p q _=>e G r p q⟩
theorem RSl.take(r:RSl K G H σ ρ p)(f:ρ[m]?=some (some c)):∃ (a p2:Fp) (w:V),(∀ b,p b=a b+p2 b)/\σ[m]?=some (some w)/\RA K G H w c a/\RSl K G H σ (ρ.set m none) p2:=by
 induction r generalizing m with
 | nil _=>simp at f
 | @no o σ ρ p r g =>
  cases m with
  | zero=>simp at f
  | succ m =>
   obtain⟨a,p2,w,n,j,i,h⟩:=g (by simpa using f)
   exact⟨a,p2,w,n,by simpa using j,i,.no h⟩
 | @so v x σ ρ s u pr q r e g =>
  cases m with
  | zero =>
   have:x=c:=by simpa using f
   subst this
   exact⟨s,u,v,e,rfl,q,.no r⟩
  | succ m =>
   obtain⟨a,p2,w,n,j,i,h⟩:=g (by simpa using f)
   exact⟨a,λb=>s b+p2 b,w,λb=>by have:=e b;have:=n b;dsimp only;omega,by simpa using j,i,.so q h λ_=>rfl⟩
theorem SR.take{m:Nat}{c:AV}(h:SR K H0 σ ρ ts as H)(f:ρ[m]?=some (some c)):∃ w,σ[m]?=some (some w)/\SR K H0 σ (ρ.set m none) (w::ts) (.av c::as) H:=by
 obtain⟨⟨p,q,n,j,i,g⟩,s⟩:=h
 obtain⟨e,a,w,x,v,u,r⟩:=n.take f
 refine⟨w,v,SR.of_le (p:=p) (q:=q) (p':=a) (q':=λb=>e b+q b) s i g (λb=>?_) r (.cons (.av u) j λ_=>rfl)⟩
 have:=x b
 show a b+(e b+q b)<=_
 omega
theorem SR.snocT(h:SR K H0 σ ρ (v::.ref D::ts) (.av c::.av (.own ys)::as) H)(I:Stb as):∃ vs,H D=some (.lst vs)/\vs.length=ys.length/\SR K H0 σ ρ (.ref D::ts) (.av (.own (ys++[c]))::as) (upd H D (.lst (vs++[v]))):=by
 obtain⟨⟨p,q,L,J,A,x⟩,s⟩:=h
 cases J with
 | @cons _ _ _ _ g N _ r rs eq =>
 cases r with
 | av r =>
 cases rs with
 | @cons _ _ _ _ E f _ j rs a =>
 cases j with
 | av j =>
 cases j with
 | @own l vs _ e _ G n B =>
  refine⟨vs,G,n.len,?_⟩
  have F:E D=1+e D:=by have:=B D;simpa using this
  have ne:∀ b u,p b+q b=0->H b=some u->b≠D:=λb u z _ y=>by subst y;have:=eq b;have:=a b;omega
  have m:Zf (hid H p q) (hid (upd H D (.lst (vs++[v]))) p q):=W1 λb u z w=>⟨z,ne b u z w⟩
  have i:∀ b o,0<p b+g b+f b+e b->H b=some o->upd H D (.lst (vs++[v])) b=some o:=λb o z w=>by
   rw[Zn (λy=>by subst y;have:=A b;have:=eq b;have:=a b;omega)];exact w
  have C:Zf H0 (upd H D (.lst (vs++[v]))):=s.updF (x D (by have:=eq D;have:=a D;omega))
  refine⟨⟨p,λb=>((if b=D then 1 else 0)+(e b+g b))+f b,?_,.cons (.av (.own ZF (RAs.snoc (r.mono ?_ λb o z=>i b o (by omega)) (n.mono ?_ λb o z=>i b o (by omega))) λ_=>rfl)) (rs.monoS ?_ I λb o z=>i b o (by omega)) (λ_=>rfl),?_,?_⟩,C⟩
  all_goals first
   | (refine L.mono (m.trans (hid_more λb z=>?_)) λb o z=>i b o (by omega))
   | (refine m.trans (hid_more λb z=>?_))
   | intro b
  all_goals (try (intro z))
  all_goals (have R:=eq b;have Q:=a b;have P:=B b;have O:=A b)
  all_goals first
   | (show p b+(((if b=D then 1 else 0)+(e b+g b))+f b)=0;omega)
   | (show p b+(((if b=D then 1 else 0)+(e b+g b))+f b)<=1;omega)
   | (refine x b ?_;have M:0<p b+(((if b=D then 1 else 0)+(e b+g b))+f b):=z;omega)
end
section
variable{E:FK}{X:Exc->Sl->Prop}{i:Int}{a b:TV}
theorem Uo(hi:ρ[n]?=some (some (.own xs)))(h:Ev K E X te ρ λa=>∃ a',a.sto=some a'/\xs.length<=1000000/\DV.nx (ρ.set n (some (.own (xs++[a']))))):Sv K E X (YK (tBM K "list" XQ (Zu n) (YZ te YL))) ρ DV:=λB r ts as H D j s x f=>by
 obtain⟨l,vs,m,A,F,_⟩:=(s.push (x:=.none) λ_=>.non).write (xs':=xs) j hi
 refine⟨.ref l,m,SW A (h B r ts as H _ s x λa ⟨a',e,hz,q⟩ v H' s'=>?_)⟩
 obtain⟨C,c,b,i,y,g⟩:=(s'.sto e).write (xs':=xs++[a']) j hi
 rw[m] at b
 cases b
 refine⟨l,c,v,rfl,rfl,i,small6 (by omega),f.nx _ q _ _ (g _ λG H p q w u=>⟨_,λ_=>Nat.le_refl _,RAs.snoc u w⟩)⟩
theorem JA(hi:ρ[n]?=some (some (.own xs)))(h:DV.nx (ρ.set n (some (.own xs.reverse)))):Sv K E X (YK (US K "list" SM (Zu n))) ρ DV:=λw r ts as H D c s x f=>by
 obtain⟨l,vs,m,a,v,j⟩:=(s.push (x:=.none) λ_=>.non).write (xs':=xs.reverse) c hi
 refine⟨.ref l,m,SW a ⟨l,vs,rfl,rfl,a,f.nx _ h _ _ (j _ λG H p q e u=>?_)⟩⟩
 obtain⟨p',i,g⟩:=e.rev
 exact⟨p',λb=>by have:=i b;omega,g⟩
theorem JB(j:ρ[m]?=some (some (.own ys)))(hi:ρ[n]?=some (some (.own xs)))(a:n≠m)(hz:xs.length<=1000000)(q:DV.nx ((ρ.set m none).set n (some (.own (xs++[.own ys]))))):Sv K E X (YK (tBM K "list" XQ (Zu n) (YZ (Zu m) YL))) ρ DV:=λB y ts as H D c s x f=>by
 obtain⟨w,r,e⟩:=s.take j
 obtain⟨l,vs,v,b,A,u⟩:=e.write (i:=n) (xs:=xs) (xs':=xs++[.own ys]) c (by rw[List.getElem?_set_ne (Ne.symm a)];exact hi)
 exact⟨.ref l,v,SW b ⟨w,r,l,vs,w,rfl,rfl,b,small6 (by omega),f.nx _ q _ _ (u _ λG H p q h g=>⟨_,λ_=>Nat.le_refl _,RAs.snoc g h⟩)⟩⟩
theorem S8(b:ρ[n]?=some (some (.own xs)))(q:DV.rt (.av (.own xs))):Sv K E X (WS (Zu n)) ρ DV:=λh e ts as H D g s x f=>by
 obtain⟨w,c,a⟩:=s.take b
 exact⟨w,c,f.rt _ q _ _ _ _ a⟩
end
variable [Tabs]{z:PyData}
section
variable{x y:V}{a b:TV}
theorem SR.turn{u:V}{f:Nat->PyData}(s:SR K H0 σ ρ (u::ts) (.av (.d z)::as) H)(ok:Wg K J u z n f)(hi:i<n):J.go i H/\∀ x H',J.yld i H x H'->SR K H0 σ ρ (x::u::ts) (.av (.d (f i))::.av (.d z)::as) H':=by
 have A:=s
 obtain⟨⟨p,q,j,h,G,F⟩,e⟩:=s
 have E:=SR.lsts j h
 cases h with
 | @cons _ _ _ _ Q P _ r rs eq =>
 cases r with
 | av r =>
 cases r with
 | d g w =>
  obtain⟨M,_⟩:=ok _ H Ym g
  obtain⟨L,I⟩:=M i hi
  refine⟨L,λx H' y=>?_⟩
  obtain⟨a,N⟩:=I x H' y
  have v:=A.ext a
  obtain⟨⟨p',q',U,T,S,R⟩,O⟩:=v
  have m:Zf (hid H p q) (hid H' p q):=W0 a
  refine⟨⟨p,q,j.mono m (λb o _=>a b o),.cons (.av (.d (p:=λ_=>0) (N (hid H' p q) m λb o C B=>?_) λ_=>rfl)) (.cons (.av (.d (g.same m) w)) (rs.mono m a) eq) (λb=>by simp),G,F⟩,O⟩
  unfold hid
  rw[if_pos]
  ·exact C
  ·rcases Nat.eq_zero_or_pos (p b+q b) with c|c
   ·exact c
   ·obtain⟨vs,y,mu⟩:=E b c;rw[B] at y;cases y
theorem SR.halt{u:V}{f:Nat->PyData}(s:SR K H0 σ ρ (u::ts) (a::as) H)(na:NR a)(b:a.data=z)(ok:Wg K J u z n f)(hi:n<=i):J.stop i H:=(ok H H (.refl H) (b▸s.top na)).2 i hi
end
variable{S:List PyData->AV->Prop}{SX:List PyData->Exc->Prop}
section
variable{E:FK}{X:Exc->Sl->Prop}{Q:TV->Prop}{tb:TE}{i j:Int}{t u:TS}{a b:TV}
theorem SR.frzV(s:SR K H0 σ ρ (v::ts) (a::as) H):SR K H0 σ ρ (v::ts) (a.frz::as) H:=by
 cases a with
 | av a=>exact s.frzT
 | bor x=>exact s
 | raw v=>exact s
theorem TV.frz_data(a:TV):a.frz.data=a.data:=by cases a<;>rfl
theorem TV.frz_nr(h:NR a):NR a.frz:=by
 cases a with
 | av a=>exact NR.av
 | bor x=>exact NR.bor
 | raw v=>exact absurd rfl (h v)
theorem Of:Wg K (Itr lo m) .non .none m λi=>.int (lo+i):=λG H b c =>
 ⟨λi a=>⟨a,λx H' ⟨e1,e2⟩=>by subst e1 e2;exact⟨.refl _,λ_ _ _=>.int _⟩⟩,λi a=>a⟩
theorem JC(s:SR K H0 σ ρ (vs++ts) ([.av (.d (.int i))]++as) H)(hl:vs.length=1):vs=[.int i]/\SR K H0 σ ρ ts as H:=by
 match vs,hl with
 | [v],_ =>
  have e:=SR.top_d (v:=v) s
  rw[e.int_inv]
  exact⟨rfl,SR.pop (v:=v) s⟩
theorem S9(s:SR K H0 σ ρ (vs++ts) ([.av (.d (.int i)),.av (.d (.int j))]++as) H)(hl:vs.length=2):vs=[.int i,.int j]/\SR K H0 σ ρ ts as H:=by
 match vs,hl with
 | [v,w],_ =>
  have a:SR K H0 σ ρ (v::w::ts) (.av (.d (.int i))::.av (.d (.int j))::as) H:=s
  have c:=a.top_d.int_inv
  have b:=a.pop.top_d.int_inv
  subst c b
  exact⟨rfl,a.pop.pop⟩
theorem Og{A:TA}{P:Nat->(Nat->PyData)->TV->Prop}(h:Ea K E X A ρ λbs=>∃ j,bs=[.av (.d (.int j))]/\(-(2 ^ 62)<=j/\j<2 ^ 62)/\P j.toNat (λi=>.int (0+(i:Int))) (.av (.d .none))):Iv K E X (UO A) ρ P:=λc a ts as H R s x k =>
 h c a ts as H _ s x λbs ⟨j,e,hj,q⟩ vs H' s' hl=>by
  subst e
  obtain⟨rfl,b⟩:=JC s' hl
  exact⟨j,rfl,hj.1,hj.2,k _ _ _ q .non _ H' (λ_ z=>nomatch z) (b.push λ_=>.non) Of⟩
theorem JD{A:TA}{P:Nat->(Nat->PyData)->TV->Prop}(h:Ea K E X A ρ λbs=>∃ i j,bs=[.av (.d (.int i)),.av (.d (.int j))]/\(-(2 ^ 62)<=i/\i<2 ^ 62/\-(2 ^ 62)<=j/\j<2 ^ 62)/\P (j-i).toNat (λk=>.int (i+(k:Int))) (.av (.d .none))):Iv K E X (SD A) ρ P:=λc a ts as H R s x k =>
 h c a ts as H _ s x λbs ⟨i,j,e,hj,q⟩ vs H' s' hl=>by
  subst e
  obtain⟨rfl,b⟩:=S9 s' hl
  exact⟨i,j,rfl,hj,k _ _ _ q .non _ H' (λ_ z=>nomatch z) (b.push λ_=>.non) Of⟩
theorem Td{tb:TS}(h:Iv K E X wi ρ λn f hd=>(∃ z,hd=.av (.d z))/\∃ Iv:Nat->Sl->Prop,Iv 0 ρ/\(∀ i b,i<n->Iv i b->Gv K g (f i) b λB=>Sv K E X tb B { nx:=Iv (i+1),ct:=Iv (i+1),bk:=DV.nx,rt:=DV.rt })/\∀ b,Iv n b->DV.nx b):Sv K E X (Vs wi g tb) ρ DV:=λG N ts as H D Q s x f =>
 h G N ts as H _ s x λn ft hd ⟨⟨z,ez⟩,Iw,i0,turn,fin⟩ u J M _ s' ok=>by
  subst ez
  refine⟨λi m L M=>m=n-i/\i<=n/\∃ b,Iw i b/\SR K G L b (u::ts) (.av (.d z)::as) M,⟨n,by simp,Nat.zero_le _,ρ,i0,s'⟩,?_⟩
  rintro i m σ1 H1 ⟨rfl,hi,ρ1,i1,s1⟩
  by_cases w:i<n
  ·obtain⟨U,T⟩:=s1.turn ok w
   refine .inr ⟨U,λA F=>∃ b,Iw (i+1) b/\SR K G A b (u::ts) (.av (.d z)::as) F,λA F p=>⟨n-(i+1),by omega,rfl,w,p⟩,λy F S=>?_⟩
   refine turn i ρ1 w i1 G σ1 _ _ F y _ (T y F S) λO P I W R=>?_
   exact P G I _ _ W _ (Stb.cons Q) R x ⟨λc q j C r=>⟨c,q,r⟩,λc q j C r=>f.nx c q j C r.pop,λc q j C r=>⟨c,q,r⟩,λa q v j c C r=>f.rt a q v j c C r.swap.pop⟩
  ·have e:i=n:=by omega
   subst e
   exact .inl ⟨s1.halt NR.av rfl ok (Nat.le_refl _),f.nx _ (fin _ i1) _ _ s1.pop⟩
theorem JE{tb:TS}(Iv:Nat->Sl->Prop)(w:Nat)(A:Iv w ρ)
  (h:∀ m a,Iv m a->Tv K E X tc a λb=>if b=true then Sv K E X tb a { nx:=λj=>∃ c,c < m/\Iv c j,ct:=λj=>∃ c,c < m/\Iv c j,bk:=DV.nx,rt:=DV.rt } else DV.nx a):Sv K E X (SA tc tb) ρ DV:=λp C ts as H D y s x f=>by
 refine⟨λm g r=>∃ a,Iv m a/\SR K p g a ts as r,⟨w,ρ,A,s⟩,?_⟩
 rintro m σ1 H1 ⟨ρ1,i1,s1⟩
 refine h m ρ1 i1 p σ1 ts as H1 _ s1 x λb q B v=>?_
 cases b with
 | true =>
  rw[if_pos rfl] at q ⊢
  exact⟨λg r=>∃ c,c < m/\∃ a,Iv c a/\SR K p g a ts as r,λg r ⟨c,l,z⟩=>⟨c,l,z⟩,q p σ1 ts as B _ y v x ⟨λe ⟨c,l,z⟩ i u n=>⟨c,l,e,z,n⟩,λe q i u n=>f.nx e q i u n,λe ⟨c,l,z⟩ i u n=>⟨c,l,e,z,n⟩,f.rt⟩⟩
 | false =>
  rw[if_neg Bool.false_ne_true] at q ⊢
  exact f.nx _ q _ _ v
def AV.sh:AV->AV
 | .obj φ=>.obj φ
 | .d x=>.d x
 | .own xs=>.d (.list (AV.datas xs))
 | .tup xs=>.d (.tuple (AV.datas xs))
 | .dic kvs=>.d (.dict kvs)
def ZC(cap:List (Option Nat))(ρ:Sl):Sl:=cap.map λo=>match o with
 | none=>none
 | some j=>(ρ[j]?).join.map AV.sh
theorem SR.at{j:Nat}(s:SR K H0 σ ρ ts as H)(h:ρ[j]?=some (some c)):∃ v,σ[j]?=some (some v)/\Rep K H v c.data:=by
 obtain⟨v,e,_,b⟩:=s.var h
 exact⟨v,e,b.top (a:=.bor c.data) NR.bor⟩
theorem SR.atO{j:Nat}(s:SR K H0 σ ρ ts as H)(h:ρ[j]?=some (some (.obj φ))):∃ v,σ[j]?=some (some v)/\φ v H/\∀ G1 G2:Hp,Zf G1 G2->φ v G1->φ v G2:=by
 obtain⟨⟨p,q,a,u,r,n⟩,e⟩:=s
 obtain⟨i,g,v,x,c,b,w⟩:=a.frz h λ_ _ _ _=>trivial
 cases b with
 | obj f m z=>exact⟨v,c,m _ _ Ym f,m⟩
theorem RSl.cap{H0 H G H2:Hp}{σ:St}{ts:List V}{as:List TV}(s:SR K H0 σ ρ ts as H)(m:Zf H G):∀ cap:List (Option Nat),RSl K G H2 (Yf cap σ) (ZC cap ρ) λ_=>0
 | []=>.nil λ_=>rfl
 | none::cap=>.no (RSl.cap s m cap)
 | some j::cap=>by
  cases e:(ρ[j]?).join with
  | none =>
   have:ZC (some j::cap) ρ=none::ZC cap ρ:=by simp[ZC,e]
   rw[this]
   exact .no (RSl.cap s m cap)
  | some c =>
   have f:ρ[j]?=some (some c):=by
    cases z:ρ[j]? with
    | none=>rw[z] at e;cases e
    | some o=>rw[z] at e;cases o with
     | none=>cases e
     | some n=>cases e;rfl
   have h:ZC (some j::cap) ρ=some c.sh::ZC cap ρ:=by simp[ZC,e]
   rw[h]
   cases c with
   | obj i =>
    obtain⟨v,b,a,g⟩:=s.atO f
    have:Yf (some j::cap) σ=some v::Yf cap σ:=by simp[Yf,b]
    rw[this]
    exact .so (.obj (g _ _ m a) g λ_=>rfl) (RSl.cap s m cap) λ_=>rfl
   | _ =>
    obtain⟨v,b,a⟩:=s.at f
    have:Yf (some j::cap) σ=some v::Yf cap σ:=by simp[Yf,b]
    rw[this]
    exact .so (.d (a.same m) λ_=>rfl) (RSl.cap s m cap) λ_=>rfl
def Got(c:AV)(a:TV):Prop:=(c.clean=true/\a=.av c)\/a=.bor c.data
theorem Got.own{c:AV}(h:c.clean=true):Got c (.av c):=.inl ⟨h,rfl⟩
theorem Got.br:Got c (.bor c.data):=.inr rfl
theorem SR.gotG(h:SR K H0 σ ρ ts as H)(r:Rs K H H' v c)(g:Got c a):SR K H0 σ ρ (v::ts) (a::as) H':=by
 rcases g with⟨b,rfl⟩|rfl
 ·exact h.got r b
 ·exact h.gotB r
theorem SR.rs(h:SR K H0 σ ρ (v::ts) (.av c::as) H):Rs K H0 H v c:=by
 obtain⟨⟨p,q,m,i,g,f⟩,e⟩:=h
 cases i with
 | @cons _ _ _ _ a j _ r rs eq =>
 cases r with
 | av r=>exact⟨e,a,λb=>by have:=eq b;have:=g b;omega,λb z=>f b (by have:=eq b;omega),r.mono (hid_more λb z=>by have:=eq b;simp;omega) λ_ _ _ z=>z⟩
theorem Oh{cap:List (Option Nat)}(h:Iv K E X wi ρ λn f _=>n<=1000000/\∃ y:Nat->Option AV,(∀ i,i<n->Gv K g (f i) (ZC cap ρ) λv=>Wk v (ZC cap ρ)/\Tv K E NE tt v λb=>if b=true then Ev K E NE te v λa=>∃ c,y i=some c/\a.sto=some c else y i=none) /\
  ∃ a,Got (.own ((List.range n).filterMap y)) a/\Q a):Ev K E X (Xm cap wi g tt te) ρ Q:=λH0 G ts as H QV s x k =>
 h H0 G ts as H _ s x λn f hd ⟨hn,y,turn,a,hg,q⟩ u J H1 nr s1 ok D hD=>by
  have I:XOk K E NE H1:=XOk.ne (x.t.same s1.same)
  have O:Zf H1 (upd H1 D (.lst [])):=YQ hD
  have N:Stb [TV.av (.d hd.data)]:=Stb.cons Stb.nil
  have start:SR K H1 (Yf cap G) (ZC cap ρ) [.ref D,u] [.av (.own []),.av (.d hd.data)] (upd H1 D (.lst [])):=by
   have m:Zf H1 (hid (upd H1 D (.lst [])) (λ_=>0) λb=>if b=D then 1 else 0):=λb o e=>by
    have B:b≠D:=Z5 e hD
    unfold hid
    simp[B]
    rw[Zn B]
    exact e
   refine⟨⟨λ_=>0,λb=>if b=D then 1 else 0,RSl.cap s1 m cap,.cons (.av (.own ZF (.nil (p:=λ_=>0) λ_=>rfl) (q:=λb=>if b=D then 1 else 0) λb=>by simp)) (.cons (.av (.d (p:=λ_=>0) ((s1.top nr).same m) λ_=>rfl)) (.nil (p:=λ_=>0) λ_=>rfl) (r:=λ_=>0) λb=>by simp) (λb=>by simp),λb=>by simp;split<;>omega,λb z=>?_⟩,O⟩
   by_cases B:b=D
   ·rw[B];exact hD
   ·simp[B] at z
  refine⟨λi m j F=>m=n-i/\i<=n/\SR K H1 j (ZC cap ρ) [.ref D,u] [.av (.own ((List.range i).filterMap y)),.av (.d hd.data)] F,⟨n,by simp,Nat.zero_le _,start⟩,?_⟩
  rintro i m σ2 H2 ⟨rfl,hi,s2⟩
  by_cases A:i<n
  ·obtain⟨g1,g2⟩:=s2.swap.turn ok A
   refine .inr ⟨g1,λj F=>SR K H1 j (ZC cap ρ) [.ref D,u] [.av (.own ((List.range (i+1)).filterMap y)),.av (.d hd.data)] F,λj F p=>⟨n-(i+1),by omega,rfl,A,p⟩,λw M Z=>?_⟩
   have S:=g2 w M Z
   refine turn i A H1 σ2 _ _ M w _ S λρ4 ⟨wk,tv⟩ σ4 H4 s4=>?_
   refine tv H1 σ4 _ _ H4 _ s4 I λb C H5 L=>?_
   cases b with
   | true =>
    rw[if_pos rfl] at C ⊢
    refine C H1 σ4 _ _ H5 _ L I λa ⟨c,e1,e2⟩ z H6 s6=>?_
    have R:=(s6.sto e2)
    have P:SR K H1 σ4 ρ4 [z,.ref D,u] [.av c,.av (.own ((List.range i).filterMap y)),.av (.d hd.data)] H6:=by
     obtain⟨⟨p,q,Y,W,U,T⟩,e⟩:=R
     refine⟨⟨p,q,Y,?_,U,T⟩,e⟩
     cases W with
     | cons r rs eq=>exact .cons r rs.swap eq
    obtain⟨vs,h1,h2,h3⟩:=P.snocT N
    refine⟨vs,h1,small6 ?_,?_⟩
    ·rw[h2]
     exact Nat.le_trans (List.length_filterMap_le _ _) (by rw[length_range];omega)
    ·have:=wk _ _ _ _ _ _ h3
     rw[range_succ,List.filterMap_append]
     simpa [e1] using this
   | false =>
    rw[if_neg Bool.false_ne_true] at C ⊢
    have:=wk _ _ _ _ _ _ L.swap
    rw[range_succ,List.filterMap_append]
    simpa [C] using this
  ·have e:i=n:=by omega
   subst e
   exact .inl ⟨s2.swap.halt NR.av rfl ok (Nat.le_refl _),k _ q _ _ (s1.pop.gotG s2.rs hg)⟩
def spV(K:W.Frag)(S:List PyData->AV->Prop)(SX:List PyData->Exc->Prop):Sp:=λvs H Q E=>XS H/\∃ ds,Reps K H vs ds /\
 ((∃ c,S ds c/\∀ v H',Rs K H H' v c->Q v H')\/∃ e,SX ds e/\∀ c d H',Zf H H'->S5 K H' e c d->E c d H')
theorem SR.reps{H0 H:Hp}{σ:St}:∀ {vs:List V} {bs:List TV} {ts:List V} {as:List TV},(∀ b∈bs,NR b)->vs.length=bs.length->SR K H0 σ ρ (vs++ts) (bs++as) H->Reps K H vs (bs.map TV.data)/\SR K H0 σ ρ ts as H
 | [],[],_,_,_,_,s=>⟨.nil,s⟩
 | v::vs,b::bs,ts,as,hb,e,s=>by
  have a:SR K H0 σ ρ (v::(vs++ts)) (b::(bs++as)) H:=s
  obtain⟨h,g⟩:=SR.reps (λc f=>hb c (.tail _ f)) (by simpa using e) a.pop
  exact⟨.cons (a.top (hb b (.head _))) h,g⟩
inductive NRs:List TV->Prop
 | nil:NRs []
 | cons {b:TV} {bs:List TV}:NR b->NRs bs->NRs (b::bs)
theorem NRs.all{bs:List TV}(h:NRs bs):∀ b∈bs,NR b:=by
 induction h with
 | nil=>exact λ_ z=>nomatch z
 | cons h _ a=>intro b c;rcases mem_cons.mp c with e|e;exact e▸h;exact a b e
def dvD:V->Option PyData
 | .int i=>some (.int i)
 | .bl b=>some (.bool b)
 | .str x=>some (.str x)
 | .non=>some .none
 | _=>none
theorem JF{d:PyData}(h:dvD v=some d):Rep K H v d:=by
 cases v<;>simp[dvD] at h<;>subst h<;>constructor
inductive DvDs:List V->List PyData->Prop
 | nil:DvDs [] []
 | cons {v:V} {d:PyData} {vs:List V} {ds:List PyData}:dvD v=some d->DvDs vs ds->DvDs (v::vs) (d::ds)
theorem DvDs.reps(h:DvDs vs ds):Reps K H vs ds:=by
 induction h with
 | nil=>exact .nil
 | cons h _ a=>exact .cons (JF h) a
def Res(a:TV)(c:AV):Prop:=a=.av c\/(NR a/\c=.d a.data)
theorem SR.start{N:List Str}{vs:List V}{ds:List PyData}{H:Hp}(h:Reps K H vs ds):SR K H (start N vs) (ds.map (λd=>some (.d d))++List.replicate (N.length-ds.length) none) [] [] H:=by
 have e:=h.length
 refine⟨⟨λ_=>0,λ_=>0,?_,.nil λ_=>rfl,λ_=>by simp,λb z=>by simp at z⟩,.refl H⟩
 have a:hid H (λ_=>0) (λ_=>0)=H:=by funext b;simp[hid]
 rw[a]
 unfold L2.start
 rw[e]
 clear e
 generalize N.length-ds.length=m
 induction h using Reps.rec (motive_1:=λ_ _ _=>True) with
 | nil =>
  simp only[map_nil,nil_append]
  induction m with
  | zero=>exact .nil λ_=>rfl
  | succ m c=>exact .no c
 | cons r rs _ c=>exact .so (.d r λ_=>rfl) c λ_=>rfl
 | _=>trivial
theorem JG{t:TS}{Qv:VK}{E:XK}(sp:spV K S SX vs H Qv E)
  (h:∀ ds,(∀ c,S ds c->Sv K (toF E) NE t (ds.map (λd=>some (.d d))++List.replicate (N.length-ds.length) none) { nx:=λ_=>c=.d .none,rt:=λa=>Res a c }) /\
   ∀ e,SX ds e->Sv K (toF E) (λs _=>s=e) t (ds.map (λd=>some (.d d))++List.replicate (N.length-ds.length) none) { nx:=λ_=>False,rt:=λ_=>False }) :
  t { nx:=λ_ H'=>Qv .non H',rt:=Qv } (L2.start N vs) H:=by
 obtain⟨p,ds,r,q⟩:=sp
 rcases q with⟨c,n,f⟩|⟨e,n,f⟩
 ·refine (h ds).1 c n H _ [] [] H _ Stb.nil (SR.start r) (XOk.ne p) ⟨λy q g H' i=>?_,λ_ z=>z.elim,λ_ z=>z.elim,λa q v g m H' i=>?_⟩
  ·rw[show c=.d .none from q] at f
   exact f _ _ (SR.rs (v:=.non) (i.push λ_=>.non))
  ·rcases q with rfl|⟨nr,rfl⟩
   ·exact f _ _ i.rs
   ·refine f _ _ ⟨i.same,λ_=>0,λ_=>by simp,λb z=>by simp at z,.d ?_ λ_=>rfl⟩
    have j:hid H' (λ_=>0) (λ_=>0)=H':=by funext b;simp[hid]
    rw[j]
    exact i.top nr
 ·exact (h ds).2 e n H _ [] [] H _ Stb.nil (SR.start r) ⟨λs m z c d g x w u=>by subst z;exact f c d x w.same u,p⟩ ⟨λ_ z=>z.elim,λ_ z=>z.elim,λ_ z=>z.elim,λ_ z=>z.elim⟩
end
def Te(K:W.Frag):R2:=λx y H Q=>∃ l b xs zs,x=.ref l/\y=.ref b/\SqL K H l xs/\SqL K H b zs/\xs.length+zs.length<=sizeLine/\∀ p,H p=none->Q (.ref p) (upd H p (.lst (xs++zs)))
theorem JH(hK:X.K=K):OpR X (binaryOp .Add) (Te K):=by
 subst hK
 intro g s R H x y v u Q I r p h
 obtain⟨l,b,xs,S,rfl,rfl,J,G,hz,q⟩:=h
 cases r
 cases p
 obtain⟨c,f,A,_⟩:=I.list J
 obtain⟨a,e,w,_⟩:=I.list G
 obtain⟨⟨c1,Z,T,n⟩,C,j,P,M,F⟩:=A
 obtain⟨⟨c2,Y,t2,m⟩,B,i,O,L,E⟩:=w
 cases P;cases M;cases F;cases O;cases L;cases E
 have W:=f.length
 have U:=e.length
 have N:c.toArray++a.toArray=(c++a).toArray:=by simp
 refine concat_meets ⟨_,j,rfl⟩ ⟨_,i,rfl⟩ noFill_list_add seq_list_add PySem.F.slot_list_add PySem.F.entry_list_add (PySem.F.args_list_add_2 _ _) (list_addW l b c.toArray a.toArray C B _ _ n m (by rw[size_toArray,size_toArray];omega)) ⟨j,i,?_⟩
 rw[N]
 exact⟨.ref _,_,I.lnew (t':=s.toks) (f.append e) (by rw[List.length_append];exact hz),rfl,q _ I.fresh⟩
variable [Tabs]
theorem len1{vs:List α}(h:vs.length=1):∃ v,vs=[v]:=List.length_eq_one_iff.mp h
theorem len2{vs:List α}(h:vs.length=2):∃ v w,vs=[v,w]:=by
 cases vs with
 | nil=>cases h
 | cons v vs =>
  obtain⟨w,e⟩:=len1 (Nat.succ.inj h)
  exact⟨v,w,by rw[e]⟩
section
variable{E:FK}{X:Exc->Sl->Prop}{Q:TV->Prop}{i:Int}{t:TS}{a b:TV}
theorem Y5(s:SR K H0 σ ρ (vs++ts) ([a]++as) H)(hl:vs.length=1):∃ v,vs=[v]/\SR K H0 σ ρ (v::ts) (a::as) H:=by
 obtain⟨v,rfl⟩:=len1 hl
 exact⟨v,rfl,s⟩
theorem JI(s:SR K H0 σ ρ (vs++ts) ([a,b]++as) H)(hl:vs.length=2):∃ v w,vs=[v,w]/\SR K H0 σ ρ (v::w::ts) (a::b::as) H:=by
 obtain⟨v,w,rfl⟩:=len2 hl
 exact⟨v,w,rfl,s⟩
theorem JJ(c:a.data=.list ds)(q:Q (.av (.d (.int ds.length))))(na:NR a:=by first|exact NR.av|exact NR.bor):Bi K E X (We K) [a] Q:=λh e f ts as H vs g s b _ k=>by
 obtain⟨v,rfl,s⟩:=Y5 s b
 exact KZ (c▸s.top na) (k _ q _ H (s.pop.int _))
theorem JK(c:a.data=.tuple ds)(q:Q (.av (.d (.int ds.length))))(na:NR a:=by first|exact NR.av|exact NR.bor):Bi K E X (We K) [a] Q:=λh e f ts as H vs g s b _ k=>by
 obtain⟨v,rfl,s⟩:=Y5 s b
 exact K0 (c▸s.top na) (k _ q _ H (s.pop.int _))
theorem Ra(ds:List PyData):AV.datas (ds.map AV.d)=ds:=by
 induction ds with
 | nil=>rfl
 | cons d ds a=>rw[map_cons,AV.datas,a];rfl
theorem JL(h:noLsts ds=true):∀ d∈ds,ZE d=true:=by
 induction ds with
 | nil=>exact λ_ z=>nomatch z
 | cons x ds a =>
  simp only[noLsts,Bool.and_eq_true] at h
  intro d b
  rcases mem_cons.mp b with e|e
  ·exact e▸h.1
  ·exact a h.2 d e
theorem JM(h:∀ d∈ds,ZE d=true):noLsts ds=true:=by
 induction ds with
 | nil=>rfl
 | cons x ds a=>simp only[noLsts,Bool.and_eq_true];exact⟨h x (.head _),a λd b=>h d (.tail _ b)⟩
theorem SR.items{es:List PyData}(s:SR K H0 σ ρ (v::ts) (a::as) H)(h:a=.av (.d a.data)\/noLsts es=true)(P:List V->Prop)(u:∀ G,Rep K G v a.data->Zf G H->∃ xs,P xs/\Reps K G xs es)(na:NR a):∃ xs,P xs/\xs.length=es.length/\SR K H0 σ ρ (xs++ts) ((es.map AV.d).map TV.av++as) H:=by
 have fin:∀ {p q:Fp} {xs:List V} {es:List PyData},Reps K (hid H p q) xs es->RTs K (hid H p q) H ts as q->RTs K (hid H p q) H (xs++ts) ((es.map AV.d).map TV.av++as) q:=by
  intro p q xs es r rt
  induction r using Reps.rec (motive_1:=λ_ _ _=>True) with
  | nil=>exact rt
  | cons r rs _ A=>exact .cons (.av (.d (p:=λ_=>0) r λ_=>rfl)) A λb=>by simp
  | _=>trivial
 rcases h with e|B
 ·rw[e] at s
  obtain⟨⟨p,q,c,f,j,i⟩,m⟩:=s
  cases f with
  | @cons _ _ _ _ E n _ r rs z=>cases r with
   | av r=>cases r with
    | d x w =>
     obtain⟨xs,g,this⟩:=u _ x Ym
     have C:hid H p q=hid H p n:=Jf λb=>by have:=z b;have:=w b;omega
     rw[C] at this c rs
     exact⟨xs,g,this.length,⟨p,n,c,fin this rs,λb=>by have:=j b;have:=z b;omega,λb y=>i b (by have:=z b;omega)⟩,m⟩
 ·obtain⟨xs,g,this⟩:=u H (s.top na) (.refl H)
  obtain⟨⟨p,q,c,f,j,i⟩,m⟩:=s.pop
  exact⟨xs,g,this.length,⟨p,q,c,fin (Reps.hid (SR.lsts c f) B this) f,j,i⟩,m⟩
def Kp(a:TV)(es:List PyData):Prop:=a=.av (.d a.data)\/noLsts es=true
theorem Kp.d{x:PyData}{es:List PyData}:Kp (.av (.d x)) es:=.inl rfl
theorem Kp.flat{es:List PyData}(h:noLsts es=true):Kp a es:=.inr h
theorem Oi(j:a.data=.list ds)(h:Kp a ds)(q:Q (.av (.own (ds.map AV.d))))(na:NR a:=by first|exact NR.av|exact NR.bor):Bi K E X (SU K) [a] Q:=λA w x ts as H vs y s i _ k=>by
 obtain⟨v,rfl,s⟩:=Y5 s i
 obtain⟨xs,⟨l,e,u⟩,r,f⟩:=s.items h (λxs=>∃ l,v=.ref l/\SqL K H l xs) (λG b c=>by
  rw[j] at b
  obtain⟨l,xs,e,n,m⟩:=b.list_inv
  exact⟨xs,⟨l,e,c.seq n⟩,m⟩) na
 exact⟨l,xs,by rw[e],.inl u,λp g=>k _ q _ _ (SR.new f (by rw[length_map,r]) g)⟩
theorem Y6(j:a.data=.list ds)(h:Kp a.frz ds)(q:Q (.av (.d (.tuple ds))))(na:NR a:=by first|exact NR.av|exact NR.bor):Bi K E X (SV K) [a] Q:=λA w x ts as H vs y s i _ k=>by
 obtain⟨v,rfl,s⟩:=Y5 s i
 obtain⟨xs,⟨l,e,u⟩,r,f⟩:=s.frzV.items h (λxs=>∃ l,v=.ref l/\SqL K H l xs) (λG b c=>by
  rw[TV.frz_data,j] at b
  obtain⟨l,xs,e,n,m⟩:=b.list_inv
  exact⟨xs,⟨l,e,c.seq n⟩,m⟩) (TV.frz_nr na)
 refine⟨l,xs,by rw[e],.inl ⟨u,λp g=>k _ q _ _ ?_⟩⟩
 have:=SR.newT f (by rw[length_map,r]) g
 rw[Ra] at this
 exact this
theorem JN{es:List PyData}(L:a.data=.list ds)(hb:b.data=.list es)(I:Kp a.frz ds)(F:Kp b.frz es)(hz:ds.length+es.length<=1000000)(q:Q (.av (.own ((ds++es).map AV.d))))(na:NR a:=by first|exact NR.av|exact NR.bor)(A:NR b:=by first|exact NR.av|exact NR.bor):Op K E X (Te K) a b Q:=λR n r ts as H x y S s _ k=>by
 obtain⟨c,⟨B,O,M⟩,g,w⟩:=s.frzV.items F (λc=>∃ l,y=.ref l/\SqL K H l c) (λG f h=>by
  rw[TV.frz_data,hb] at f
  obtain⟨l,xs,e,m,j⟩:=f.list_inv
  exact⟨xs,⟨l,e,h.seq m⟩,j⟩) (TV.frz_nr A)
 have v:SR K R n r (x::(c++ts)) (a::((es.map AV.d).map TV.av++as)) H:=SR.rot (by rw[length_map,length_map,g]) w
 obtain⟨xs,⟨C,P,N⟩,i,u⟩:=v.frzV.items I (λc=>∃ l,x=.ref l/\SqL K H l c) (λG f h=>by
  rw[TV.frz_data,L] at f
  obtain⟨l,xs,e,m,j⟩:=f.list_inv
  exact⟨xs,⟨l,e,h.seq m⟩,j⟩) (TV.frz_nr na)
 refine⟨C,B,xs,c,P,O,N,M,Nat.le_of_lt (small6 (by omega)),λp J=>k _ q _ _ (SR.new (xs:=(ds++es).map AV.d) ?_ (by rw[List.length_append,length_map,List.length_append,i,g]) J)⟩
 rw[List.append_assoc,map_append,map_append,List.append_assoc]
 exact u
theorem JO{k:Int}(hn:noLsts ds=true)(u:-(2 ^ 63)<=k/\k<2 ^ 63)(hz:ds.length*k.toNat<=1000000)(q:Q (.av (.own ((List.replicate k.toNat ds).flatten.map AV.d)))):Op K E X UT (.av (.own (ds.map AV.d))) (.av (.d (.int k))) Q:=λZ O P ts as H x y Y s _ F=>by
 have N:=s.top_d.int_inv
 subst N
 have f:=s.pop
 have S:=f.top (a:=.av (.own (ds.map AV.d))) NR.av
 have C:=f.pop
 obtain⟨⟨p,q',j,e,A,w⟩,B⟩:=f
 cases e with
 | cons r rs z=>cases r with
  | av r=>cases r with
   | @own l vs _ T _ J G W =>
    have n:Reps K H vs ds:=by have:=G.rep Ym;rwa [Ra] at this
    have c:∀ m:Nat,Reps K H (List.replicate m vs).flatten (List.replicate m ds).flatten:=λm=>by
     induction m with
     | zero=>exact .nil
     | succ m g=>rw[replicate_succ,replicate_succ,flatten_cons,flatten_cons];exact n.append g
    have h:∀ m:Nat,noLsts (List.replicate m ds).flatten=true:=λm=>JM λd L=>by
     obtain⟨l,M,v⟩:=List.mem_flatten.mp L
     rw[List.eq_of_mem_replicate M] at v
     exact JL hn d v
    refine⟨l,k,vs,rfl,rfl,J,u.1,u.2,Nat.le_of_lt (small6 (by rw[n.length];exact hz)),λU I=>F _ q _ _ (SR.new (xs:=(List.replicate k.toNat ds).flatten.map AV.d) ?_ (by rw[length_map,(c _).length]) I)⟩
    obtain⟨⟨p,q',j,e,A,w⟩,B⟩:=C
    refine⟨⟨p,q',j,?_,A,w⟩,B⟩
    have i:=Reps.hid (p:=p) (q:=q') (SR.lsts j e) (h k.toNat) (c k.toNat)
    generalize (List.replicate k.toNat vs).flatten=R at i
    generalize (List.replicate k.toNat ds).flatten=es at i
    clear q
    induction i using Reps.rec (motive_1:=λ_ _ _=>True) with
    | nil=>exact e
    | cons r rs _ g=>exact .cons (.av (.d (p:=λ_=>0) r λ_=>rfl)) g λb=>by simp
    | _=>trivial
def VI(xs:List PyData)(lo hi:Option Int):List PyData:=(xs.drop (HT.sIx xs.length 0 lo)).take (HT.sIx xs.length xs.length hi-HT.sIx xs.length 0 lo)
theorem Reps.drop{G:Hp}:∀ {xs:List V} {ds:List PyData} (m:Nat),Reps K G xs ds->Reps K G (xs.drop m) (ds.drop m)
 | _,_,0,r=>r
 | _,_,_+1,.nil=>.nil
 | _,_,m+1,.cons _ rs=>Reps.drop m rs
theorem Reps.take{G:Hp}:∀ {xs:List V} {ds:List PyData} (m:Nat),Reps K G xs ds->Reps K G (xs.take m) (ds.take m)
 | _,_,0,_=>.nil
 | _,_,_+1,.nil=>.nil
 | _,_,m+1,.cons r rs=>.cons r (Reps.take m rs)
theorem Reps.cut{xs:List V}(lo hi:Option Int)(r:Reps K G xs ds):Reps K G (XO xs lo hi) (VI ds lo hi):=by
 unfold XO VI
 rw[r.length]
 exact Reps.take _ (Reps.drop _ r)
def To(t:TO)(ρ:Sl)(K:W.Frag)(E:FK)(X:Exc->Sl->Prop)(Q:Option Int->Prop):Prop :=
 ∀ (H0:Hp) (σ:St) (ts:List V) (as:List TV) (H:Hp) (QV:Option Int->Hp->Prop),SR K H0 σ ρ ts as H->XOk K E X H0->(∀ o,Q o->∀ H',SR K H0 σ ρ ts as H'->QV o H')->t σ H QV
theorem JP{P:Option Int->Prop}(q:P none):To Pp ρ K E X P:=λc a ts as H b s x k=>k _ q H s
theorem JQ{P:Option Int->Prop}(h:Ev K E X te ρ λa=>∃ i,a=.av (.d (.int i))/\P (some i)):To (Pq te) ρ K E X P:=λc b ts as H f s x k =>
 h c b ts as H _ s x λa ⟨i,e,q⟩ v H' s'=>by subst e;exact⟨i,s'.top_d.int_inv,k _ q H' s'.pop⟩
end
variable [Tabs]{nx ct:Sl->Prop}{rt:TV->Prop}{s0 s1 s2 s3 s4 s5 s6 s7 s8:Option AV}
section
variable{E:FK}{X:Exc->Sl->Prop}{Q:TV->Prop}{bk:Sl->Prop}{tb:TE}{x:PyData}{r:Sl}{a:AV}
theorem JR(q:Q (.av (.d x))):Ev K E X (Zu 0) (some (.d x)::r) Q:=Xy rfl q
theorem JS{o:Option AV}(h:Ev K E X te (o::r) λa=>∃ a',Sto (o::r) a a'/\nx (some a'::r)):Sv K E X (Yc te (ZR 0)) (o::r) ⟨nx,rt,bk,ct⟩:=Xz (n:=0) h (by simp only[length_cons];omega)
theorem gv_0{o:Option AV}{P:Sl->Prop}(h:P (some (.d x)::r)):Gv K (ZR 0) x (o::r) P:=XT (n:=0) h (by simp only[length_cons];omega)
theorem Y7{o:Option AV}:Wk (o::r) (none::r):=λ_ _ _ _ _ _ s=>s.drop (i:=0)
theorem JT(q:Q (.av (.d x))):Ev K E X (Zu 1) (s0::some (.d x)::r) Q:=Xy rfl q
theorem JU(q:Q (.bor (.list (AV.datas xs)))):Ev K E X (Zu 1) (s0::some (.own xs)::r) Q:=W2 rfl q
theorem JV{o:Option AV}(h:Ev K E X te (s0::o::r) λa=>∃ a',Sto (s0::o::r) a a'/\nx (s0::some a'::r)):Sv K E X (Yc te (ZR 1)) (s0::o::r) ⟨nx,rt,bk,ct⟩:=Xz (n:=1) h (by simp only[length_cons];omega)
theorem gv_1{o:Option AV}{P:Sl->Prop}(h:P (s0::some (.d x)::r)):Gv K (ZR 1) x (s0::o::r) P:=XT (n:=1) h (by simp only[length_cons];omega)
theorem JW(q:rt (.av (.own xs))):Sv K E X (WS (Zu 1)) (s0::some (.own xs)::r) ⟨nx,rt,bk,ct⟩:=S8 rfl q
theorem wk_1{o:Option AV}:Wk (s0::o::r) (s0::none::r):=λ_ _ _ _ _ _ s=>s.drop (i:=1)
theorem JX(q:Q (.av (.d x))):Ev K E X (Zu 2) (s0::s1::some (.d x)::r) Q:=Xy rfl q
theorem JY(q:Q (.bor (.list (AV.datas xs)))):Ev K E X (Zu 2) (s0::s1::some (.own xs)::r) Q:=W2 rfl q
theorem JZ{o:Option AV}(h:Ev K E X te (s0::s1::o::r) λa=>∃ a',Sto (s0::s1::o::r) a a'/\nx (s0::s1::some a'::r)):Sv K E X (Yc te (ZR 2)) (s0::s1::o::r) ⟨nx,rt,bk,ct⟩:=Xz (n:=2) h (by simp only[length_cons];omega)
theorem gv_2{o:Option AV}{P:Sl->Prop}(h:P (s0::s1::some (.d x)::r)):Gv K (ZR 2) x (s0::s1::o::r) P:=XT (n:=2) h (by simp only[length_cons];omega)
theorem J0(h:Ev K E X te (s0::s1::some (.own xs)::r) λa=>∃ a',a.sto=some a'/\xs.length<=1000000/\nx (s0::s1::some (.own (xs++[a']))::r)):Sv K E X (YK (tBM K "list" XQ (Zu 2) (YZ te YL))) (s0::s1::some (.own xs)::r) ⟨nx,rt,bk,ct⟩:=Uo (n:=2) rfl h
theorem J1(q:rt (.av (.own xs))):Sv K E X (WS (Zu 2)) (s0::s1::some (.own xs)::r) ⟨nx,rt,bk,ct⟩:=S8 rfl q
theorem J3(h:nx (s0::s1::some (.own xs.reverse)::r)):Sv K E X (YK (US K "list" SM (Zu 2))) (s0::s1::some (.own xs)::r) ⟨nx,rt,bk,ct⟩:=JA (n:=2) rfl h
theorem J4(q:Q (.av (.d x))):Ev K E X (Zu 3) (s0::s1::s2::some (.d x)::r) Q:=Xy rfl q
theorem J5{o:Option AV}(h:Ev K E X te (s0::s1::s2::o::r) λa=>∃ a',Sto (s0::s1::s2::o::r) a a'/\nx (s0::s1::s2::some a'::r)):Sv K E X (Yc te (ZR 3)) (s0::s1::s2::o::r) ⟨nx,rt,bk,ct⟩:=Xz (n:=3) h (by simp only[length_cons];omega)
theorem gv_3{o:Option AV}{P:Sl->Prop}(h:P (s0::s1::s2::some (.d x)::r)):Gv K (ZR 3) x (s0::s1::s2::o::r) P:=XT (n:=3) h (by simp only[length_cons];omega)
theorem J6(q:Q (.av (.d x))):Ev K E X (Zu 4) (s0::s1::s2::s3::some (.d x)::r) Q:=Xy rfl q
theorem J7(q:Q (.bor (.list (AV.datas xs)))):Ev K E X (Zu 4) (s0::s1::s2::s3::some (.own xs)::r) Q:=W2 rfl q
theorem J8{o:Option AV}(h:Ev K E X te (s0::s1::s2::s3::o::r) λa=>∃ a',Sto (s0::s1::s2::s3::o::r) a a'/\nx (s0::s1::s2::s3::some a'::r)):Sv K E X (Yc te (ZR 4)) (s0::s1::s2::s3::o::r) ⟨nx,rt,bk,ct⟩:=Xz (n:=4) h (by simp only[length_cons];omega)
theorem gv_4{o:Option AV}{P:Sl->Prop}(h:P (s0::s1::s2::s3::some (.d x)::r)):Gv K (ZR 4) x (s0::s1::s2::s3::o::r) P:=XT (n:=4) h (by simp only[length_cons];omega)
theorem J9(h:Ev K E X te (s0::s1::s2::s3::some (.own xs)::r) λa=>∃ a',a.sto=some a'/\xs.length<=1000000/\nx (s0::s1::s2::s3::some (.own (xs++[a']))::r)):Sv K E X (YK (tBM K "list" XQ (Zu 4) (YZ te YL))) (s0::s1::s2::s3::some (.own xs)::r) ⟨nx,rt,bk,ct⟩:=Uo (n:=4) rfl h
theorem Ia(q:rt (.av (.own xs))):Sv K E X (WS (Zu 4)) (s0::s1::s2::s3::some (.own xs)::r) ⟨nx,rt,bk,ct⟩:=S8 rfl q
theorem Ib(q:Q (.av (.d x))):Ev K E X (Zu 5) (s0::s1::s2::s3::s4::some (.d x)::r) Q:=Xy rfl q
theorem Ic{o:Option AV}(h:Ev K E X te (s0::s1::s2::s3::s4::o::r) λa=>∃ a',Sto (s0::s1::s2::s3::s4::o::r) a a'/\nx (s0::s1::s2::s3::s4::some a'::r)):Sv K E X (Yc te (ZR 5)) (s0::s1::s2::s3::s4::o::r) ⟨nx,rt,bk,ct⟩:=Xz (n:=5) h (by simp only[length_cons];omega)
theorem gv_5{o:Option AV}{P:Sl->Prop}(h:P (s0::s1::s2::s3::s4::some (.d x)::r)):Gv K (ZR 5) x (s0::s1::s2::s3::s4::o::r) P:=XT (n:=5) h (by simp only[length_cons];omega)
theorem Id(q:Q (.av (.d x))):Ev K E X (Zu 6) (s0::s1::s2::s3::s4::s5::some (.d x)::r) Q:=Xy rfl q
theorem Ie(q:Q (.bor (.list (AV.datas xs)))):Ev K E X (Zu 6) (s0::s1::s2::s3::s4::s5::some (.own xs)::r) Q:=W2 rfl q
theorem Ig{o:Option AV}(h:Ev K E X te (s0::s1::s2::s3::s4::s5::o::r) λa=>∃ a',Sto (s0::s1::s2::s3::s4::s5::o::r) a a'/\nx (s0::s1::s2::s3::s4::s5::some a'::r)):Sv K E X (Yc te (ZR 6)) (s0::s1::s2::s3::s4::s5::o::r) ⟨nx,rt,bk,ct⟩:=Xz (n:=6) h (by simp only[length_cons];omega)
theorem gv_6{o:Option AV}{P:Sl->Prop}(h:P (s0::s1::s2::s3::s4::s5::some (.d x)::r)):Gv K (ZR 6) x (s0::s1::s2::s3::s4::s5::o::r) P:=XT (n:=6) h (by simp only[length_cons];omega)
theorem Ih(h:Ev K E X te (s0::s1::s2::s3::s4::s5::some (.own xs)::r) λa=>∃ a',a.sto=some a'/\xs.length<=1000000/\nx (s0::s1::s2::s3::s4::s5::some (.own (xs++[a']))::r)):Sv K E X (YK (tBM K "list" XQ (Zu 6) (YZ te YL))) (s0::s1::s2::s3::s4::s5::some (.own xs)::r) ⟨nx,rt,bk,ct⟩:=Uo (n:=6) rfl h
theorem Ii(q:Q (.av (.d x))):Ev K E X (Zu 7) (s0::s1::s2::s3::s4::s5::s6::some (.d x)::r) Q:=Xy rfl q
theorem Ij(q:Q (.bor (.list (AV.datas xs)))):Ev K E X (Zu 7) (s0::s1::s2::s3::s4::s5::s6::some (.own xs)::r) Q:=W2 rfl q
theorem Ik{o:Option AV}(h:Ev K E X te (s0::s1::s2::s3::s4::s5::s6::o::r) λa=>∃ a',Sto (s0::s1::s2::s3::s4::s5::s6::o::r) a a'/\nx (s0::s1::s2::s3::s4::s5::s6::some a'::r)):Sv K E X (Yc te (ZR 7)) (s0::s1::s2::s3::s4::s5::s6::o::r) ⟨nx,rt,bk,ct⟩:=Xz (n:=7) h (by simp only[length_cons];omega)
theorem Il(h:Ev K E X te (s0::s1::s2::s3::s4::s5::s6::some (.own xs)::r) λa=>∃ a',a.sto=some a'/\xs.length<=1000000/\nx (s0::s1::s2::s3::s4::s5::s6::some (.own (xs++[a']))::r)):Sv K E X (YK (tBM K "list" XQ (Zu 7) (YZ te YL))) (s0::s1::s2::s3::s4::s5::s6::some (.own xs)::r) ⟨nx,rt,bk,ct⟩:=Uo (n:=7) rfl h
theorem Im(q:Q (.av (.d x))):Ev K E X (Zu 8) (s0::s1::s2::s3::s4::s5::s6::s7::some (.d x)::r) Q:=Xy rfl q
theorem Io{o:Option AV}(h:Ev K E X te (s0::s1::s2::s3::s4::s5::s6::s7::o::r) λa=>∃ a',Sto (s0::s1::s2::s3::s4::s5::s6::s7::o::r) a a'/\nx (s0::s1::s2::s3::s4::s5::s6::s7::some a'::r)):Sv K E X (Yc te (ZR 8)) (s0::s1::s2::s3::s4::s5::s6::s7::o::r) ⟨nx,rt,bk,ct⟩:=Xz (n:=8) h (by simp only[length_cons];omega)
theorem gv_8{o:Option AV}{P:Sl->Prop}(h:P (s0::s1::s2::s3::s4::s5::s6::s7::some (.d x)::r)):Gv K (ZR 8) x (s0::s1::s2::s3::s4::s5::s6::s7::o::r) P:=XT (n:=8) h (by simp only[length_cons];omega)
theorem Ip(q:Q (.av (.d x))):Ev K E X (Zu 9) (s0::s1::s2::s3::s4::s5::s6::s7::s8::some (.d x)::r) Q:=Xy rfl q
theorem Iq{o:Option AV}(h:Ev K E X te (s0::s1::s2::s3::s4::s5::s6::s7::s8::o::r) λa=>∃ a',Sto (s0::s1::s2::s3::s4::s5::s6::s7::s8::o::r) a a'/\nx (s0::s1::s2::s3::s4::s5::s6::s7::s8::some a'::r)):Sv K E X (Yc te (ZR 9)) (s0::s1::s2::s3::s4::s5::s6::s7::s8::o::r) ⟨nx,rt,bk,ct⟩:=Xz (n:=9) h (by simp only[length_cons];omega)
theorem Ir(h:Ev K E X te (s0::s1::s2::s3::s4::s5::s6::s7::s8::some (.own xs)::r) λa=>∃ a',a.sto=some a'/\xs.length<=1000000/\nx (s0::s1::s2::s3::s4::s5::s6::s7::s8::some (.own (xs++[a']))::r)):Sv K E X (YK (tBM K "list" XQ (Zu 9) (YZ te YL))) (s0::s1::s2::s3::s4::s5::s6::s7::s8::some (.own xs)::r) ⟨nx,rt,bk,ct⟩:=Uo (n:=9) rfl h
theorem Iu{a:Option AV}{o:Option AV}{P:Sl->Prop}(h:P (s0::s1::s2::s3::s4::s5::s6::s7::s8::a::some (.d x)::r)):Gv K (ZR 10) x (s0::s1::s2::s3::s4::s5::s6::s7::s8::a::o::r) P:=XT (n:=10) h (by simp only[length_cons];omega)
theorem Rc{t u:TS}(h:Sv K E X t ρ ⟨λa=>Sv K E X u a ⟨nx,rt,bk,ct⟩,rt,bk,ct⟩):Sv K E X (Sw t u) ρ ⟨nx,rt,bk,ct⟩:=Jx h
theorem Ix(h:nx ρ):Sv K E X UM ρ ⟨nx,rt,bk,ct⟩:=Oe h
theorem Oj(h:Ev K E X te ρ λ_=>nx ρ):Sv K E X (YK te) ρ ⟨nx,rt,bk,ct⟩:=Jy h
theorem Ol(h:Ev K E X te ρ rt):Sv K E X (WS te) ρ ⟨nx,rt,bk,ct⟩:=Jz h
theorem s_if{c:TT}{t u:TS}(h:Tv K E X c ρ λb=>if b=true then Sv K E X t ρ ⟨nx,rt,bk,ct⟩ else Sv K E X u ρ ⟨nx,rt,bk,ct⟩):Sv K E X (V8 c t u) ρ ⟨nx,rt,bk,ct⟩:=S7 h
theorem Re{tb:TS}(Iv:Nat->Sl->Prop)(f:Nat)(g:Iv f ρ)
  (h:∀ m a,Iv m a->Tv K E X tc a λb=>if b=true then Sv K E X tb a ⟨λc=>∃ e,e < m/\Iv e c,rt,nx,λc=>∃ e,e < m/\Iv e c⟩ else nx a):Sv K E X (SA tc tb) ρ ⟨nx,rt,bk,ct⟩:=JE Iv f g h
theorem Iy(b:ρ[m]?=some (some (.own ys)))(hi:ρ[n]?=some (some (.own xs)))(a:n≠m)(hz:xs.length<=1000000)(q:nx ((ρ.set m none).set n (some (.own (xs++[.own ys]))))):Sv K E X (YK (tBM K "list" XQ (Zu n) (YZ (Zu m) YL))) ρ ⟨nx,rt,bk,ct⟩:=JB b hi a hz q
end
variable{prog:Program}
def rOr(r r':R2):R2:=λx y H Q=>r x y H Q\/r' x y H Q
def Om:R2:=λx y H Q=>∃ i j,x=.str i/\y=.str j/\i.length+j.length<=sizeLine/\Q (.str (i++j)) H
def Rf:R2:=rI0 λi j=>.int (i+j)
def Rg:R2:=rI Ud λi j=>.int (i*j)
def Rh(K:W.Frag):R2:=λx y H Q=>∃ a b ys,x=.ref a/\y=.ref b/\SqT K H a []/\SqT K H b ys/\Q (.ref b) H
theorem Iz{t:Addr}{i:List Value}(u:IsTup s.heap t ([]:List Value).toArray)(hb:IsTup s.heap b i.toArray)
  (h1:Q (.ref b) s):wpAny (model prog w) A (binaryOp .Add (.ref t) (.ref b)) Q E s:=by
 obtain⟨⟨cls,dd,data,sl⟩,j,p,n,m⟩:=id u
 obtain⟨⟨q,g,h,f⟩,a,e,r,c⟩:=id hb
 simp only at p m e c
 subst p m e c
 exact concat_meets ⟨_,j,rfl⟩ ⟨_,a,rfl⟩ noFill_tuple_add seq_tuple_add PySem.F.slot_tuple_add PySem.F.entry_tuple_add (PySem.F.args_tuple_add_2 _ _)
   (tuple_addW0 t b #[] i.toArray n r dd g sl f rfl) ⟨j,a,h1⟩
theorem IA(hK:X.K=K):OpR X (binaryOp .Add) (Rh K):=by
 subst hK
 intro c s w H x y v u Q I g f h
 obtain⟨a,b,A,rfl,rfl,r,p,q⟩:=h
 cases g
 cases f
 obtain⟨n,i,m,_⟩:=I.tuple r
 obtain⟨e,B,j,_⟩:=I.tuple p
 cases i
 exact Iz m j ⟨.ref b,H,I,rfl,q⟩
theorem Z8(hK:X.K=K):OpR X (binaryOp .Add) (rOr Rf (rOr (Te K) (rOr (UQ K) (rOr Om (Rh K))))):=LN.or ((JH hK).or ((K1 hK).or (LT.or (IA hK))))
theorem XA:OpR X (binaryOp .Mult) (rOr Rg UT):=LO.or Kz
theorem Yu(hK:X.K=K)(a:X.A.units+64<cLine):OpR X (compareOp .Eq) (rOr rEq (VA K)):=LQ.or (K2 hK a)
theorem Yz(hK:X.K=K)(a:X.A.units+64<cLine):OpR X (compareOp .NotEq) (rOr rNe (WZ K)):=LR.or (K3 hK a)
theorem Zk(hK:X.K=K)(a:X.A.units+64<cLine):IxR X (rOr (WV K) (rOr (UR K) (rOr SK S3))):=by subst hK;exact Kg.or (Kh.or (Ki.or (Jc a)))
def slOr(r r':V->Option Int->Option Int->Hp->VK->Prop):V->Option Int->Option Int->Hp->VK->Prop:=λx lo hi H Q=>r x lo hi H Q\/r' x lo hi H Q
theorem IB(hK:X.K=K):SlR X (slOr (SL K) (SI K)):=by subst hK;exact Kn.or Kd
def cOr(r r':List V->Hp->VK->Prop):List V->Hp->VK->Prop:=λxs H Q=>r xs H Q\/r' xs H Q
def Ri:List V->Hp->VK->Prop:=λxs H Q=>∃ z,xs=[.str z]/\z.length<=sizeLine/\Q (.int z.length) H
theorem ZS(hK:X.K=K):Z1 X (.builtin "len") (cOr (We K) Ri):=by subst hK;exact KL.or Kr
def VJ(K:W.Frag)(tl:TE):TI:=λσ H R=>tl σ H λx H1=>∃ a,x=.ref a/\(((∃ xs,SqL K H1 a xs)/\R (Itl K a) H1)\/((∃ xs,SqT K H1 a xs)/\R (Itt K a) H1))
theorem Xo{l:Expr}{tl:TE}(hK:X.K=K)(hl:PE X l tl):PI X tg l (VJ K tl):=by
 subst hK
 intro c s j H R I h
 refine thn (hl c s j H _ I h) λv s1 ⟨x,H1,I1,r1,q1⟩=>?_
 obtain⟨a,e,q⟩:=q1
 subst e
 cases r1
 have i:∀ b∈[s1.heap.objs.size],Yy X c H1 b:=λb m=>by
  rw[mem_singleton.mp m]
  exact I1.fpOk (Nat.le_refl _) (I1.hok.fresh (Nat.le_refl _))
 rcases q with⟨⟨xs,g⟩,q⟩|⟨⟨xs,g⟩,q⟩
 ·obtain⟨f,_,p,_⟩:=I1.list g
  exact wpAny_pyIter_list p.isList ⟨s1.heap.objs.size,_,_,_,H1,rfl,I1.kept (t':=s1.toks) λb o e=>Heap.get?_push_of_some _ e,LH a _,⟨_,Heap.get?_push_size _ rfl,rfl,rfl⟩,i,q⟩
 ·obtain⟨f,_,p,_⟩:=I1.tuple g
  exact wpAny_pyIter_tuple (show s1.heap.IsTuple a f.toArray from p) ⟨s1.heap.objs.size,_,_,_,H1,rfl,I1.kept (t':=s1.toks) λb o e=>Heap.get?_push_of_some _ e,LI a _,⟨_,Heap.get?_push_size _ rfl,rfl,rfl⟩,i,q⟩
variable [Tabs]
section
variable{E:FK}{X:Exc->Sl->Prop}{Q:TV->Prop}{tb:TE}{i j:Int}{a b:TV}
theorem XU(h:Op K E X r a b Q):Op K E X (rOr r r') a b Q:=λi c e ts as H x y g s f k=>.inl (h i c e ts as H x y g s f k)
theorem XB(h:Op K E X r' a b Q):Op K E X (rOr r r') a b Q:=λi c e ts as H x y g s f k=>.inr (h i c e ts as H x y g s f k)
abbrev Rj(K:W.Frag):R2:=rOr Rf (rOr (Te K) (rOr (UQ K) (rOr Om (Rh K))))
theorem IC(q:Q (.av (.d (.int (i+j))))):Op K E X (rOr Rf r') (.av (.d (.int i))) (.av (.d (.int j))) Q:=XU (Ob q)
theorem On(c:Ud i j)(q:Q (.av (.d (.int (i*j))))):Op K E X (rOr Rg r') (.av (.d (.int i))) (.av (.d (.int j))) Q:=XU (S6 c q)
theorem eq_i(q:Q (.av (.d (.bool (decide (i=j)))))):Op K E X (rOr rEq r') (.av (.d (.int i))) (.av (.d (.int j))) Q:=XU (Jm q)
theorem ne_i(q:Q (.av (.d (.bool (!decide (i=j)))))):Op K E X (rOr rNe r') (.av (.d (.int i))) (.av (.d (.int j))) Q:=XU (Jn q)
theorem Y8[DecidableEq α]{c d:α}(F:Enc f m)(h:a.data=f c)(hb:b.data=f d)(q:Q (.av (.d (.bool (decide (c=d))))))(na:NR a:=by first|exact NR.av|exact NR.bor)(e:NR b:=by first|exact NR.av|exact NR.bor)(g:m<=32:=by decide):Op K E X (rOr rEq (VA K)) a b Q:=XB (Jo F h hb q na e g)
theorem ne_d[DecidableEq α]{c d:α}(F:Enc f m)(h:a.data=f c)(hb:b.data=f d)(q:Q (.av (.d (.bool (!decide (c=d))))))(na:NR a:=by first|exact NR.av|exact NR.bor)(e:NR b:=by first|exact NR.av|exact NR.bor)(g:m<=32:=by decide):Op K E X (rOr rNe (WZ K)) a b Q:=XB (Jp F h hb q na e g)
abbrev Tf(K:W.Frag):R2:=rOr (WV K) (rOr (UR K) (rOr SK S3))
theorem ZL{c:TV}{k:Int}(b:a.data=.list ds)(e:atI ds k=some y)(it:Zs a y c)(q:Q c)(na:NR a:=by first|exact NR.av|exact NR.bor):Op K E X (Tf K) a (.av (.d (.int k))) Q:=XU (Jq b e it q na)
theorem YA{c:TV}{k:Int}(b:a.data=.tuple ds)(e:atI ds k=some y)(it:Zs a y c)(q:Q c)(na:NR a:=by first|exact NR.av|exact NR.bor):Op K E X (Tf K) a (.av (.d (.int k))) Q:=XB (XU (Jr b e it q na))
theorem Rk{es:List PyData}(g:a.data=.list ds)(hb:b.data=.list es)(f:Kp a.frz ds)(e:Kp b.frz es)(hz:ds.length+es.length<=1000000)(q:Q (.av (.own ((ds++es).map AV.d))))(na:NR a:=by first|exact NR.av|exact NR.bor)(c:NR b:=by first|exact NR.av|exact NR.bor):Op K E X (Rj K) a b Q:=XB (XU (JN g hb f e hz q na c))
theorem ID{k:Int}(hn:noLsts ds=true)(a:-(2 ^ 63)<=k/\k<2 ^ 63)(hz:ds.length*k.toNat<=1000000)(q:Q (.av (.own ((List.replicate k.toNat ds).flatten.map AV.d)))):Op K E X (rOr Rg UT) (.av (.own (ds.map AV.d))) (.av (.d (.int k))) Q:=XB (JO hn a hz q)
theorem bi_l{c f:List V->Hp->VK->Prop}{bs:List TV}(h:Bi K E X c bs Q):Bi K E X (cOr c f) bs Q:=λi a b ts as H vs g s e x k=>.inl (h i a b ts as H vs g s e x k)
theorem Z9(b:a.data=.list ds)(q:Q (.av (.d (.int ds.length))))(na:NR a:=by first|exact NR.av|exact NR.bor):Bi K E X (cOr (We K) Ri) [a] Q:=bi_l (JJ b q na)
theorem W3(b:a.data=.tuple ds)(q:Q (.av (.d (.int ds.length))))(na:NR a:=by first|exact NR.av|exact NR.bor):Bi K E X (cOr (We K) Ri) [a] Q:=bi_l (JK b q na)
theorem sl_L{tl th:TO}(h:Ev K E X te ρ λa=>To tl ρ K E X λlo=>To th ρ K E X λhi=>∃ ds,a.data=.list ds/\NR a/\Kp a.frz (VI ds lo hi)/\Q (.av (.own ((VI ds lo hi).map AV.d)))):Ev K E X (tSl (slOr (SL K) (SI K)) te tl th) ρ Q:=λf c ts as H J s x k=>by
 refine h f c ts as H _ s x λa u v I m=>u f c _ _ I _ m x λlo r F j=>r f c _ _ F _ j x λhi ⟨ds,ha,na,kp,q⟩ H3 s3=>.inl ?_
 obtain⟨xs,⟨l,b,e,C,ex⟩,B,n⟩:=s3.frzV.items kp (λxs=>∃ l b,v=.ref l/\SqL K H3 l b/\xs=XO b lo hi) (λG g i=>by
  rw[TV.frz_data,ha] at g
  obtain⟨l,xs,e,A,y⟩:=g.list_inv
  exact⟨_,⟨l,xs,e,i.seq A,rfl⟩,Reps.cut lo hi y⟩) (TV.frz_nr na)
 subst ex
 exact⟨l,b,e,C,λp w=>k _ q _ _ (SR.new n (by rw[length_map,B]) w)⟩
theorem IE:Wg K (Itl K l) (.ref l) (.list ds) ds.length λi=>ds.getD i .none:=by
 intro G H g h
 obtain⟨q,a,p,n,f⟩:=h.list_inv
 cases p
 have c:=g.seq n
 refine⟨λi b=>?_,λi b=>⟨a,c,by rw[f.length];exact b⟩⟩
 obtain⟨w,e,j⟩:=f.get (i:=i) (d:=ds.getD i .none) (by rw[getD_eq_getElem?_getD,getElem?_eq_getElem b];rfl)
 refine⟨⟨a,w,c,e⟩,λx H' ⟨e1,e2⟩=>?_⟩
 subst e1
 have:=e2 a c
 rw[e] at this
 cases this
 exact⟨.refl _,λr m _=>j.same m⟩
theorem IF:Wg K (Itt K l) (.ref l) (.tuple ds) ds.length λi=>ds.getD i .none:=by
 intro G H g h
 obtain⟨q,a,p,n,f⟩:=h.tuple_inv
 cases p
 have c:=g.tupS n
 refine⟨λi b=>?_,λi b=>⟨a,c,by rw[f.length];exact b⟩⟩
 obtain⟨w,e,j⟩:=f.get (i:=i) (d:=ds.getD i .none) (by rw[getD_eq_getElem?_getD,getElem?_eq_getElem b];rfl)
 refine⟨⟨a,w,c,e⟩,λx H' ⟨e1,e2⟩=>?_⟩
 subst e1
 have:=e2 a c
 rw[e] at this
 cases this
 exact⟨.refl _,λr m _=>j.same m⟩
theorem Rm{P:Nat->(Nat->PyData)->TV->Prop}(h:Ev K E X te ρ λa=>∃ ds,(a.data=.list ds\/a.data=.tuple ds)/\NR a/\P ds.length (λi=>ds.getD i .none) a.frz):Iv K E X (VJ K te) ρ P:=λj f ts as H R s x k =>
 h j f ts as H _ s x λa ⟨ds,e,na,q⟩ v H' s'=>by
  have b:=s'.top na
  rcases e with e|e
  ·rw[e] at b
   obtain⟨l,xs,rfl,c,g⟩:=b.list_inv
   refine⟨l,rfl,.inl ⟨⟨xs,c⟩,k _ _ _ q (.ref l) _ H' (TV.frz_nr na) s'.frzV ?_⟩⟩
   rw[TV.frz_data,e]
   exact IE
  ·rw[e] at b
   obtain⟨l,xs,rfl,c,g⟩:=b.tuple_inv
   refine⟨l,rfl,.inr ⟨⟨xs,c⟩,k _ _ _ q (.ref l) _ H' (TV.frz_nr na) s'.frzV ?_⟩⟩
   rw[TV.frz_data,e]
   exact IF
theorem VM{xs:List α}{e:α->PyData}{i:Nat}(hi:i<xs.length):(xs.map e).getD i .none=e xs[i]:=by
 rw[getD_eq_getElem?_getD,getElem?_map,getElem?_eq_getElem hi];rfl
theorem Oo{bk:Sl->Prop}{tb:TS}(h:Ev K E X te ρ λa=>∃ (xs:List α) (e:α->PyData),(a.data=.list (xs.map e)\/a.data=.tuple (xs.map e))/\(∃ c,a=.av c)/\∃ f:Nat->Sl->Prop,f 0 ρ/\(∀ i b (hi:i<xs.length),f i b->Gv K g (e xs[i]) b λj=>Sv K E X tb j ⟨f (i+1),rt,nx,f (i+1)⟩)/\∀ b,f xs.length b->nx b):Sv K E X (Vs (VJ K te) g tb) ρ ⟨nx,rt,bk,ct⟩ :=
 Td (Rm (VH h (λa p=>by
  obtain⟨xs,e,q,⟨c,m⟩,f,n,turn,fin⟩:=p
  exact⟨xs.map e,q,by subst m;exact NR.av,⟨c.data,by rw[m];rfl⟩,f,n,λi b hi w=>by
  rw[length_map] at hi
  show Gv K g ((xs.map e).getD i .none) b _
  rw[VM hi]
  exact turn i b hi w,λb w=>fin b (by rw[length_map] at w;exact w)⟩)))
theorem Wh{bk:Sl->Prop}{A:TA}{tb:TS}(h:Ea K E X A ρ λbs=>∃ j,bs=[.av (.d (.int j))]/\(-(2 ^ 62)<=j/\j<2 ^ 62)/\∃ b:Nat->Sl->Prop,b 0 ρ/\(∀ (i:Nat) a,i<j.toNat->b i a->Gv K g (.int i) a λc=>Sv K E X tb c ⟨b (i+1),rt,nx,b (i+1)⟩)/\∀ a,b j.toNat a->nx a):Sv K E X (Vs (UO A) g tb) ρ ⟨nx,rt,bk,ct⟩ :=
 Td (Og λu f ts as H r s x k=>h u f ts as H r s x (λbs q=>by
  obtain⟨j,e,n,b,m,turn,fin⟩:=q
  exact k bs ⟨j,e,n,⟨_,rfl⟩,b,m,λi a p w=>by
  show Gv K g (.int (0+(i:Int))) a _
  rw[Int.zero_add]
  exact turn i a p w,fin⟩))
theorem IG(xs:List α)(f:α->Option AV):(List.range xs.length).filterMap (λi=>(xs[i]?).bind f)=xs.filterMap f:=by
 induction xs with
 | nil=>rfl
 | cons x xs a =>
  rw[length_cons,List.range_succ_eq_map,filterMap_cons,List.filterMap_map]
  have:(λi=>((x::xs)[i]?).bind f) ∘ Nat.succ=λi=>(xs[i]?).bind f:=by funext i;simp
  rw[this,a]
  simp[filterMap_cons]
theorem IH{cap:List (Option Nat)}(h:Ev K E X ti ρ λa=>∃ (xs:List α) (e:α->PyData) (y:α->Option AV),(a.data=.list (xs.map e)\/a.data=.tuple (xs.map e))/\NR a/\xs.length<=1000000 /\
  (∀ i (hi:i<xs.length),Gv K g (e xs[i]) (ZC cap ρ) λf=>Wk f (ZC cap ρ)/\Tv K E NE tt f λb=>if b=true then Ev K E NE te f λa=>∃ c,y xs[i]=some c/\a.sto=some c else y xs[i]=none) /\
  ∃ a,Got (.own (xs.filterMap y)) a/\Q a):Ev K E X (Xm cap (VJ K ti) g tt te) ρ Q :=
 Oh (Rm (VH h (λa n=>by
  obtain⟨xs,e,y,r,j,m,turn,c,p,q⟩:=n
  exact⟨xs.map e,r,j,by rw[length_map];exact m,λi=>(xs[i]?).bind y,λi hi=>by
  rw[length_map] at hi
  show Gv K g ((xs.map e).getD i .none) _ λf=>_/\Tv K E _ tt f λb=>if b=true then Ev K E _ te f λa=>∃ c,(xs[i]?).bind y=some c/\_ else (xs[i]?).bind y=none
  rw[VM hi,getElem?_eq_getElem hi]
  exact turn i hi,c,by rw[length_map,IG];exact p,q⟩)))
theorem Wi{cap:List (Option Nat)}(h:Ev K E X ti ρ λa=>∃ (xs:List α) (e:α->PyData) (y:α->AV),(a.data=.list (xs.map e)\/a.data=.tuple (xs.map e))/\NR a/\xs.length<=1000000 /\
  (∀ i (hi:i<xs.length),Gv K g (e xs[i]) (ZC cap ρ) λb=>Wk b (ZC cap ρ)/\Ev K E NE te b λa=>a.sto=some (y xs[i])) /\
  ∃ a,Got (.own (xs.map y)) a/\Q a):Ev K E X (Xm cap (VJ K ti) g WY te) ρ Q :=
 IH (α:=α) (VH h (λa n=>by
  obtain⟨xs,e,y,r,j,m,turn,c,p,q⟩:=n
  exact⟨xs,e,λx=>some (y x),r,j,m,λi hi A f ts as H v u s k=>turn i hi A f ts as H v u s λb ⟨w,ev⟩=>k b ⟨w,Tc (by
  rw[if_pos rfl]
  exact VH ev λa z=>⟨_,rfl,z⟩)⟩,c,by rw[List.filterMap_eq_map'];exact p,q⟩))
theorem II{cap:List (Option Nat)}{A:TA}(h:Ea K E X A ρ λbs=>∃ (j:Int) (y:Nat->AV),bs=[.av (.d (.int j))]/\(-(2 ^ 62)<=j/\j<=1000000) /\
  (∀ i:Nat,i<j.toNat->Gv K g (.int i) (ZC cap ρ) λb=>Wk b (ZC cap ρ)/\Ev K E NE te b λa=>a.sto=some (y i)) /\
  ∃ a,Got (.own ((List.range j.toNat).map y)) a/\Q a):Ev K E X (Xm cap (UO A) g WY te) ρ Q :=
 Oh (Og λm f ts as H C s x k=>h m f ts as H C s x (λbs r=>by
  obtain⟨j,y,e,n,turn,c,u,q⟩:=r
  exact k bs ⟨j,e,⟨n.1,by omega⟩,by omega,λi=>some (y i),λi p m f ts as H v B s k=>by
  have s:SR K m f (ZC cap ρ) (v::ts) (.av (.d (.int (0+(i:Int))))::as) H:=s
  rw[Int.zero_add] at s
  exact turn i p m f ts as H v B s λb ⟨w,ev⟩=>k b ⟨w,Tc (by
   rw[if_pos rfl]
   exact VH ev λa z=>⟨_,rfl,z⟩)⟩,c,by rw[List.filterMap_eq_map'];exact u,q⟩))
theorem Wj(xs:List α)(y:α->AV):(AV.own (xs.map y)).data=.list (xs.map λx=>(y x).data):=by
 rw[AV.data,AV.datas_map,map_map];rfl
theorem Yq(xs:List α)(y:α->PyData):AV.datas (xs.map λx=>.d (y x))=xs.map y:=by
 rw[AV.datas_map,map_map];rfl
theorem IJ(h:∀ x∈xs,x.clean=true):AV.cleans xs=true:=by
 induction xs with
 | nil=>rfl
 | cons x xs a=>simp only[AV.cleans,Bool.and_eq_true];exact⟨h x (.head _),a λy b=>h y (.tail _ b)⟩
theorem YR{xs:List α}{y:α->AV}(h:∀ x,(y x).clean=true):(AV.own (xs.map y)).clean=true:=by
 rw[AV.clean]
 exact IJ λz hz=>by obtain⟨x,_,rfl⟩:=mem_map.mp hz;exact h x
end
def tIfJ(c:TT)(t u:TS):TS:=V8 c t u
theorem W4{c:Expr}{a b:List Stmt}{t u:TS}(e:PT X c tc)(f:PSs X a t)(hb:PSs X b u):PS X (.If c a b pos) (tIfJ tc t u):=Z3 e f hb
variable [Tabs]
def NX:List PyData->Exc->Prop:=λ_ _=>False
def ini(N:List Str)(ds:List PyData):Sl:=ds.map (λd=>some (.d d))++List.replicate (N.length-ds.length) none
abbrev fin(c:AV):VEnds:=⟨λ_=>c=.d .none,λa=>Res a c,λ_=>False,λ_=>False⟩
section
variable{k:Nat}
theorem Oq{t:TS}{Qv:VK}{E:XK}(sp:spV K S NX vs H Qv E)(h:∀ ds c,S ds c->Sv K (toF E) NE t (ini N ds) (fin c)):t { nx:=λ_ H'=>Qv .non H',rt:=Qv } (L2.start N vs) H :=
 JG (N:=N) sp λds=>⟨λc b=>h ds c b,λe a=>a.elim⟩
theorem IK{Q:VK}{E:XK}(h:spV K S NX vs H Q E)(f:∀ ds c,S ds c->ds.length=n):vs.length=n:=by
 obtain⟨_,ds,r,⟨c,b,_⟩|⟨e,a,_⟩⟩:=h
 ·rw[r.length];exact f ds c b
 ·exact a.elim
theorem val(T:Tx K mg x st ps dvss)(j:FnScope N ps (Zd st))(e:∀ ds c,S ds c->ds.length=ps.length)
  (a:∀ (f:Addr) (cdv:Value) (A:Around) (outer:List Env) (s:Shared) (H:Hp) (E:XK),Room k (A.deeper (envOfC x (Zd st) s.heap.objs.size f cdv)) ->
   ∃ t,PSs (YM CX P w K mg base N x (Zd st) f cdv A outer s H E).nox (Zv st) t/\∀ ds c,S ds c->Sv K (toF E) NE t (ini N ds) (fin c)) :
  ∀ dvs∈dvss,Cal P w K mg base CX (k+1) x ps dvs (spV K S NX) :=
 T.cal (k:=k) j (λvs H Q E h=>IK h e) λf cdv A outer s H vs Q E b h =>
  let ⟨t,i,g⟩:=a f cdv A outer s H E b
  ⟨t,i,Oq h g⟩
end
variable{E':XK}{dds:List PyData}
section
variable{E:FK}{X:Exc->Sl->Prop}{Q:TV->Prop}{i:Int}{t u:TS}{a b:TV}
theorem v_b{c:Bool}{P:Bool->Prop}(h:P c):∃ a,TV.av (.d (.bool c))=.av (.d (.bool a))/\P a:=⟨c,rfl,h⟩
theorem v_i{P:Int->Prop}(h:P i):∃ a,TV.av (.d (.int i))=.av (.d (.int a))/\P a:=⟨i,rfl,h⟩
theorem v_s{P:AV->Prop}(h:P c):∃ a',Sto ρ (.av c) a'/\P a':=⟨c,.inl rfl,h⟩
theorem v_sB{x:PyData}{P:AV->Prop}(hn:Yn ρ)(h:P (.d x)):∃ a',Sto ρ (.bor x) a'/\P a':=⟨.d x,.inr (.inr ⟨hn,⟨x,rfl⟩,rfl⟩),h⟩
theorem VN{x:PyData}{P:AV->Prop}(e:c.data=x)(h:P (.d x)):∃ a',Sto ρ (.av c) a'/\P a':=⟨.d x,.inr (.inl ⟨c,rfl,by rw[e]⟩),h⟩
theorem XV{P:AV->Prop}(hz:xs.length<=1000000)(h:P c):∃ a',(TV.av c).sto=some a'/\xs.length<=1000000/\P a':=⟨c,rfl,hz,h⟩
def Cl(S:List PyData->AV->Prop)(dds:List PyData)(Q:TV->Prop)(bs:List TV):Prop:=NRs bs/\∃ c a,S (bs.map TV.data++dds) c/\Got c a/\Q a
theorem ZV{bs:List TV}(b:NRs bs)(e:S (bs.map TV.data++dds) c)(g:Got c a)(q:Q a):Cl S dds Q bs:=⟨b,c,a,e,g,q⟩
theorem IL{A:TA}(hd:DvDs dvs dds)(h:Ea K E X A ρ (Cl S dds Q)):Ev K E X (WT (spV K S SX) dvs E' A) ρ Q:=λi e ts as H j s x k =>
 h i e ts as H _ s x λbs ⟨nr,c,a,h1,h2,h3⟩ vs H' s' hl=>by
  obtain⟨f,b⟩:=SR.reps nr.all hl s'
  exact⟨x.t.same b.same,bs.map TV.data++dds,f.append hd.reps,.inl ⟨c,h1,λv g r=>k a h3 v g (b.gotG r h2)⟩⟩
theorem IM{A:TA}(h:Ea K E X A ρ (Cl S [] Q)):Ev K E X (WT (spV K S SX) [] E' A) ρ Q:=IL .nil h
theorem Zt{x:PyData}(h:c=.d x):Res (.av (.d x)) c:=.inl (by rw[h])
theorem Wl(h:c=.own xs):Res (.av (.own xs)) c:=.inl (by rw[h])
theorem IN{b bk:Sl->Prop}(h:Sv K E X t ρ ⟨b,rt,bk,ct⟩)(m:∀ a,b a->nx a):Sv K E X t ρ ⟨nx,rt,bk,ct⟩:=λg c ts as H D e s x f=>h g c ts as H D e s x ⟨λa q=>f.nx a (m a q),f.bk,f.ct,f.rt⟩
theorem W5{bk:Sl->Prop}{c:TT}(J:Sl->Prop)(e:∀ a,J a->nx a)(h:Tv K E X c ρ λb=>if b=true then Sv K E X t ρ ⟨J,rt,bk,ct⟩ else Sv K E X u ρ ⟨J,rt,bk,ct⟩):Sv K E X (tIfJ c t u) ρ ⟨nx,rt,bk,ct⟩:=IN (S7 h) e
theorem Tg{A:Prop}(h:B):if (!true)=true then A else B:=h
theorem Ti{A:Prop}(h:A):if (!false)=true then A else B:=h
theorem IO(q:Q (.av (.own []))):Ev K E X (SG YL) ρ Q:=Yj (Oc ⟨[],.nil,Nat.zero_le _,q⟩)
end
variable [Tabs]
theorem IP(hl:∀ b,0<p b+q b->∃ o,H b=some o/\Mu o){o:HO}(e:H a=some o)(n:¬ Mu o):L2.hid H p q a=some o:=by
 unfold L2.hid
 rw[if_pos]
 ·exact e
 ·rcases Nat.eq_zero_or_pos (p a+q a) with z|z
  ·exact z
  ·obtain⟨vs,z,mu⟩:=hl a z;rw[e] at z;cases z;exact absurd mu n
theorem Inv.born{e:Addr}{o:HO}(I:Inv X pins σ H s)(hn:H e=none)(c:s.heap.get? e=none)(k:∀ b u,s.heap.get? b=some u->h'.get? b=some u)(n1:ZB X.prog X.w (upd H e o) h' e o):Inv X pins σ (upd H e o) { s with heap:=h',toks:=t' }:=by
 have ne:∀ b u,s.heap.get? b=some u->b≠e:=λb u q z=>by rw[z,c] at q;cases q
 refine I.un ⟨λb u q n _ _=>k b u q,λb u q n _ _=>⟨u.slots,k b u q⟩,λb u q n _=>by rw[Zn (ne b u q)];exact n,λb u q _=>⟨u,k b u q⟩,λb xs q=>by rw[Zn (Z5 q hn)];exact q,λb u xs q=>by rw[Zn (Z5 q hn)];exact q,λb h q=>⟨#[],by rw[Zn (Z5 q hn)];simpa using q⟩⟩ λa u q=>?_
 by_cases f:a=e
 ·subst f;rw[ZF] at q;cases q;exact n1
 ·rw[Zn f] at q
  refine (I.hok a u q).stay (λb g _ z=>k b g z) (λb z=>by rw[Zn (Z5 z hn)];exact z) λb xs z=>by rw[Zn (Z5 z hn)];exact z
variable [Tabs]
section
variable{y:V}{b:TV}
theorem RAs.pick{c:AV}:∀ {vs:List V} {xs:List AV} {p:Fp} {j:Nat},RAs K G H vs xs p->xs[j]?=some c ->
  ∃ (f p2:Fp) (w:V),(∀ b,p b=f b+p2 b)/\vs[j]?=some w/\RA K G H w c f/\∀ (G' H':Hp) (g:AV) (a:Fp),Zf G G'->(∀ b o,0<p2 b->H b=some o->H' b=some o)->RA K G' H' w g a->RAs K G' H' vs (xs.set j g) (λb=>a b+p2 b)
 | _,_,_,_,.nil _,e=>by simp at e
 | _,_,_,0,.cons (p:=f) (q:=q1) (v:=v0) r rs e0,e=>by
  simp at e
  subst e
  exact⟨f,q1,v0,e0,rfl,r,λG' H' g a m k h=>.cons h (rs.mono m k) λ_=>rfl⟩
 | _,_,_,j+1,.cons (p:=f) (q:=q1) r rs e0,e=>by
  obtain⟨n,i,w,y,x,u,s⟩:=RAs.pick (j:=j) rs (by simpa using e)
  refine⟨n,λb=>f b+i b,w,λb=>by have:=e0 b;have:=y b;dsimp only;omega,by simpa using x,u,λG' H' g a m k h=>?_⟩
  exact .cons (r.mono m λb o z=>k b o (by dsimp only;omega)) (s G' H' g a m (λb o z=>k b o (by dsimp only;omega)) h) λb=>by dsimp only;omega
theorem SR.write2{ys':List AV}(h:SR K H0 σ ρ (v::ts) (.av c::as) H)(hS:Stb as)(hi:ρ[i]?=some (some (.own xs)))(hj:xs[j]?=some (.own ys)) :
  ∃ l m us vs,σ[i]?=some (some (.ref l))/\H l=some (.lst us)/\us.length=xs.length/\us[j]?=some (.ref m)/\H m=some (.lst vs)/\vs.length=ys.length/\∀ a,(∀ G H p q,RAs K G H vs ys p->RA K G H v c q->∃ p':Fp,(∀ b,p' b<=p b+q b)/\RAs K G H a ys' p')->SR K H0 σ (ρ.set i (some (.own (xs.set j (.own ys'))))) ts as (upd H m (.lst a)):=by
 obtain⟨⟨p,q,h1,h2,C,O⟩,s⟩:=h
 obtain⟨J,A,w,x,R,e3,e4⟩:=h1.frz hi λ_ _ _ _=>trivial
 cases h2 with
 | @cons _ _ _ _ q1 E _ r rs eq =>
  cases r with
  | av r =>
  cases e3 with
  | @own l us _ T _ N M P =>
   obtain⟨F,f,u,f1,f2,f3,f4⟩:=M.pick hj
   cases f3 with
   | @own m vs _ I _ hm L Q =>
   refine⟨l,m,us,vs,R,N,M.len,f2,hm,L.len,λa Y=>?_⟩
   have hpl:J l=1+T l:=by have:=P l;simpa using this
   have Z:F m=1+I m:=by have:=Q m;simpa using this
   have e:∀ b,J b=(if b=l then 1 else 0)+(F b+f b):=λb=>by rw[P b,f1 b]
   have U:l≠m:=λy=>by subst y;have a1:=e l;rw[if_pos rfl] at a1;have:=x l;have:=C l;omega
   have ne:∀ b u,p b+q b=0->H b=some u->b≠m:=λb u z _ y=>by subst y;have:=x b;have:=e b;omega
   have n:Zf (hid H p q) (hid (upd H m (.lst a)) p q):=W1 λb u z w=>⟨z,ne b u z w⟩
   have g:∀ b o,0<(if b=l then 1 else 0)+f b+I b+A b+q b->H b=some o->upd H m (.lst a) b=some o:=λb o z w=>by
    rw[Zn (λy=>by subst y;have:=C b;have:=x b;have:=e b;simp[U.symm] at z;omega)];exact w
   obtain⟨p',X,W⟩:=Y _ _ _ _ (L.mono n λb o z=>g b o (by omega)) (r.mono n λb o z=>g b o (by have:=eq b;omega))
   have B:=f4 (hid (upd H m (.lst a)) p q) (upd H m (.lst a)) (.own ys') (λb=>(if b=m then 1 else 0)+p' b) n (λb o z=>g b o (by omega)) (.own ZF W λ_=>rfl)
   have z:=e4 (hid (upd H m (.lst a)) p q) (upd H m (.lst a)) (.ref l) (.own (xs.set j (.own ys'))) (λb=>(if b=l then 1 else 0)+(((if b=m then 1 else 0)+p' b)+f b)) (λb=>((if b=l then 1 else 0)+(((if b=m then 1 else 0)+p' b)+f b))+A b) n (λb o z=>g b o (by omega)) (.own (g l _ (by simp;omega) N) B λ_=>rfl) (λ_=>rfl)
   rw[Um R] at z
   have S:Zf H0 (upd H m (.lst a)):=s.updF (O m (by have:=x m;have:=e m;omega))
   refine SR.of_le (p:=p) (q:=q) (p':=λb=>((if b=l then 1 else 0)+(((if b=m then 1 else 0)+p' b)+f b))+A b) (q':=E) S C O (λb=>?_) z (rs.monoS n hS λb o y=>g b o (by have:=eq b;omega))
   have:=X b;have:=Q b;have:=e b;have:=x b;have:=eq b
   show ((if b=l then 1 else 0)+(((if b=m then 1 else 0)+p' b)+f b))+A b+E b<=p b+q b
   omega
end
section
variable{E:FK}{X:Exc->Sl->Prop}{Q:TV->Prop}{tj:TE}{i j:Int}{t:TS}{a b:TV}
def Pu(K:W.Frag)(t:TE)(ρ:Sl)(Q:Int->Prop):Prop:=∀ (H0:Hp) (σ:St) (ts:List V) (as:List TV) (H:Hp) (QV:VK),SR K H0 σ ρ ts as H->(∀ i,Q i->QV (.int i) H)->t σ H QV
theorem IQ{P:Int->Prop}(q:P i):Pu K (tC (.int i)) ρ P:=λc a ts as H b s k=>k i q
theorem IR(hi:ρ[n]?=some (some (.own xs)))(h:Ev K E X te ρ λa=>Ev K E X ti ρ λb=>∃ k j ys,b=.av (.d (.int k))/\ixN xs.length k=some j/\xs[j]?=some (.own ys)/\Pu K tj ρ λm=>∃ a' z,a.sto=some a'/\ixN ys.length m=some z/\DV.nx (ρ.set n (some (.own (xs.set j (.own (ys.set z a'))))))) :
  Sv K E X (Yc te (Vr (tOp (rOr (WV K) r') (Zu n) ti) tj VG)) ρ DV:=λu e ts as H D i s x f=>by
 refine h u e ts as H _ s x λa T v Y N=>?_
 obtain⟨l,vs,r,e2,e3,_⟩:=(s.push (x:=.none) λ_=>.non).write (xs':=xs) i hi
 refine⟨.ref l,r,T u e _ _ Y _ N x λb ⟨k,j,ys,eb,hj,hy,h3⟩ w H2 s2=>.inl ?_⟩
 subst eb
 have W:=s2.top_d.int_inv
 subst W
 obtain⟨l',y,us,L,J,I,U,F,g5,g6,_⟩:=SR.write2 (v:=.non) (c:=.d .none) (ys':=ys) ((s2.pop.pop).push (x:=.none) λ_=>.non) i hi hy
 rw[r] at J
 cases J
 refine⟨l,us,k,.ref y,rfl,rfl,SqL.of I,?_,h3 u e _ _ H2 _ s2.pop λm ⟨a',z,ea,hz,q⟩=>?_⟩
 ·unfold L2.atI
  rw[U,hj]
  exact F
 ·obtain⟨l2,Z,M,g,C,B,k3,A,S,R,Q⟩:=(s2.pop.sto ea).write2 (ys':=ys.set z a') i hi hy
  rw[r] at C
  cases C
  rw[I] at B
  cases B
  rw[F] at A
  cases A
  exact .inl ⟨y,g,m,z,rfl,rfl,S,by rw[R];exact hz,f.nx _ q _ _ (Q _ λG H p q P O=>RAs.set O z P)⟩
theorem IS[DecidableEq α]{c:α}{xs:List α}(F:Enc f m)(n:a.data=f c)(hb:b.data=.list (xs.map f)\/b.data=.tuple (xs.map f))(q:Q (.av (.d (.bool (!decide (c∈xs))))))(na:NR a:=by first|exact NR.av|exact NR.bor)(i:NR b:=by first|exact NR.av|exact NR.bor)(j:m<=32:=by decide):Op K E X (S4 K true) a b Q:=λv p r ts as H x y u s _ k=>by
 have h:=s.pop.top na
 have g:=s.top i
 rw[n] at h
 refine .inl ⟨f c,xs.map f,h,(show _\/_ by rcases hb with e|e;exact .inl (e▸g);exact .inr (e▸g)),F.lay c,Ta F xs,Nat.le_trans (F.dep c) j,?_⟩
 rw[if_pos rfl,P9 F]
 exact k _ q _ H (s.pop.pop.bl _)
theorem IT{es:List PyData}(O:a.data=.tuple ds)(hb:b.data=.tuple es)(N:Kp a ds)(M:Kp b es)(hz:ds.length+es.length<=1000000)(q:Q (.av (.d (.tuple (ds++es)))))(na:NR a:=by first|exact NR.av|exact NR.bor)(F:NR b:=by first|exact NR.av|exact NR.bor):Op K E X (Rj K) a b Q:=λr j m ts as H x y QV s _ k=>by
 have L:∀ {c:TV} {es:List PyData},NR c->c.data=.tuple es->Kp c es->∀ {z:V} {ts:List V} {as:List TV},SR K r j m (z::ts) (c::as) H->SR K r j m (z::ts) (.av (.d (.tuple es))::as) H:=λ{c es} nc hc kc {z ts as} s=>by
  rcases kc with e|e
  ·rw[hc] at e;rw[e] at s;exact s
  ·have n:ZE (.tuple es)=true:=by simpa [ZE] using e
   exact s.pop.pushF n (hc▸s.top nc)
 obtain⟨f,⟨I,A,P⟩,g,W⟩:=s.items M (λf=>∃ l,y=.ref l/\SqT K H l f) (λG h u=>by
  rw[hb] at h
  obtain⟨l,xs,e,w,v⟩:=h.tuple_inv
  exact⟨xs,⟨l,e,u.tupS w⟩,v⟩) F
 have U:SR K r j m (x::(f++ts)) (a::((es.map AV.d).map TV.av++as)) H:=SR.rot (by rw[length_map,length_map,g]) W
 obtain⟨xs,⟨J,B,R⟩,i,T⟩:=U.items N (λf=>∃ l,x=.ref l/\SqT K H l f) (λG h u=>by
  rw[O] at h
  obtain⟨l,xs,e,w,v⟩:=h.tuple_inv
  exact⟨xs,⟨l,e,u.tupS w⟩,v⟩) na
 by_cases n:xs=[]
 ·subst n
  have:ds=[]:=List.length_eq_zero_iff.mp (by rw[<- i];rfl)
  subst this
  refine .inr (.inr (.inr (.inr ⟨J,I,f,B,A,R,P,?_⟩)))
  have z:=L F hb M s
  have C:=z.swap.pop
  rw[A] at C
  exact k _ q _ _ C
 ·refine .inr (.inr (.inl ⟨J,I,xs,f,B,A,R,P,n,Nat.le_of_lt (small6 (by omega)),λZ=>?_,λ_ p Y=>k _ q _ _ ?_⟩))
  ·subst Z
   have:es=[]:=List.length_eq_zero_iff.mp (by rw[<- g];rfl)
   subst this
   rw[append_nil] at q
   have z:=L na O N s.pop
   rw[B] at z
   exact k _ q _ _ z
  ·have S:SR K r j m ((xs++f)++ts) (((ds++es).map AV.d).map TV.av++as) H:=by
    rw[List.append_assoc,map_append,map_append,List.append_assoc]
    exact T
   have:=SR.newT S (by rw[List.length_append,length_map,List.length_append,i,g]) Y
   rw[Ra] at this
   exact this
end
variable [Tabs]
section
variable [DecidableEq α]
structure KEnc(f:α->PyData):Prop where
 ex:(∃ g:α->Key,(∀ a b,g a=g b->a=b)/\∀ a,f a=Zx (g a))\/(∃ g:α->List Key,(∀ a b,g a=g b->a=b)/\∀ a,f a=.tuple ((g a).map Zx))\/∃ g:α->Key×List Key,(∀ a b,g a=g b->a=b)/\∀ a,f a=.tuple [Zx (g a).1,.tuple ((g a).2.map Zx)]
abbrev Zz(f:α->PyData)(kvs:List (α×PyData)):List (PyData×PyData):=kvs.map λp=>(f p.1,p.2)
theorem KEnc.int:KEnc PyData.int:=⟨.inl ⟨Sum.inl,λ_ _ e=>Sum.inl.inj e,λ_=>rfl⟩⟩
abbrev dP(p:Int×Int):PyData:=.tuple [.int p.1,.int p.2]
theorem KEnc.pair:KEnc dP:=⟨.inr (.inl ⟨λp=>[.inl p.1,.inl p.2],λa b e=>by
 simp only[List.cons.injEq,Sum.inl.injEq,and_true] at e
 exact Prod.ext e.1 e.2,λ_=>rfl⟩)⟩
theorem Os:∀ {a b:List Int},(a.map Sum.inl:List Key)=b.map Sum.inl->a=b
 | [],[],_=>rfl
 | [],_::_,e=>by simp at e
 | _::_,[],e=>by simp at e
 | x::a,y::b,e=>by
  simp only[map_cons,List.cons.injEq,Sum.inl.injEq] at e
  rw[e.1,Os e.2]
abbrev dQ(p:Int×List Int):PyData:=.tuple [.int p.1,.tuple (p.2.map .int)]
theorem KEnc.nest:KEnc dQ:=⟨.inr (.inr ⟨λp=>(.inl p.1,p.2.map .inl),λa b e=>by
 simp only[Prod.mk.injEq,Sum.inl.injEq] at e
 exact Prod.ext e.1 (Os e.2),λp=>by rw[map_map];rfl⟩)⟩
theorem Up:∀ {a b:Key},Zx a=Zx b->a=b
 | .inl _,.inl _,e=>by cases e;rfl
 | .inr _,.inr _,e=>by cases e;rfl
theorem XW{k:Key}{l:List PyData}:Zx k≠.tuple l:=by cases k<;>exact λe=>nomatch e
theorem Tj{k:List Key}{x:PyData}{l:List PyData}:k.map Zx≠[x,.tuple l]:=λe=>by
 cases k with
 | nil=>simp at e
 | cons a k =>
  cases k with
  | nil=>simp at e
  | cons b k =>
   simp only[map_cons,List.cons.injEq] at e
   exact XW e.2.1
theorem Tk:∀ {a b:List Key},a.map Zx=b.map Zx->a=b
 | [],[],_=>rfl
 | [],_::_,e=>by simp at e
 | _::_,[],e=>by simp at e
 | x::a,y::b,e=>by
  simp only[map_cons,List.cons.injEq] at e
  rw[Up e.1,Tk e.2]
end
variable{kvs:List (α×PyData)}
section
variable [DecidableEq α][DecidableEq κ]{g:α->κ}{en:κ->PyData}
abbrev PR(K:W.Frag)(H:Hp)(g:α->κ):List (κ×V)->List (α×PyData)->Prop:=Paired λp q=>p.1=g q.1/\Rep K H p.2 q.2
theorem XC(c:∀ a b,en a=en b->a=b):∀ {ks:List (κ×V)} {ds:List PyData} {kvs:List (α×PyData)},Zz (λa=>en (g a)) kvs=(ks.map λp=>en p.1).zip ds->Reps K H (ks.map Prod.snd) ds->PR K H g ks kvs
 | [],_,[],_,_=>.nil
 | [],_,_::_,e,_=>by simp at e
 | _::_,_,[],e,.cons _ _=>by simp at e
 | p::ks,d::ds,q::kvs,e,.cons r rs=>by
  simp only[Zz,map_cons,List.zip_cons_cons,List.cons.injEq,Prod.mk.injEq] at e
  refine .cons ⟨(c _ _ e.1.1).symm,?_⟩ (XC c e.2 rs)
  rw[e.1.2]
  exact r
theorem Tl:∀ {ks:List (κ×V)} {kvs:List (α×PyData)},PR K H g ks kvs->Reps K H (ks.map Prod.snd) (kvs.map Prod.snd)
 | _,_,.nil=>.nil
 | _,_,.cons h t=>.cons h.2 (Tl t)
theorem Tm:∀ {ks:List (κ×V)} {kvs:List (α×PyData)},PR K H g ks kvs->Zz (λa=>en (g a)) kvs=(ks.map λp=>en p.1).zip (kvs.map Prod.snd)
 | _,_,.nil=>rfl
 | p::ks,q::kvs,.cons h t=>by
  have b:=Tm t
  simp only[Zz,map_cons,List.zip_cons_cons] at b ⊢
  rw[b,h.1]
theorem Uq(f:∀ a b,g a=g b->a=b){k:α}:∀ {ks:List (κ×V)} {kvs:List (α×PyData)},PR K H g ks kvs->(Yl ks (g k)).isSome=(ZG kvs k).isSome/\∀ y,ZG kvs k=some y->∃ v,Yl ks (g k)=some v/\Rep K H v y
 | _,_,.nil=>⟨rfl,λ_ z=>nomatch z⟩
 | p::ks,q::kvs,.cons h t=>by
  obtain⟨j,i⟩:=Uq f (k:=k) t
  by_cases e:q.1=k
  ·have c:p.1=g k:=by rw[h.1,e]
   rw[Uf c]
   have:ZG (q::kvs) k=some q.2:=by simp[ZG,find?_cons,e]
   rw[this]
   exact⟨rfl,λy z=>by cases z;exact⟨_,rfl,h.2⟩⟩
  ·have c:¬ p.1=g k:=λz=>e (f _ _ (h.1.symm.trans z))
   rw[Ug c]
   have:ZG (q::kvs) k=ZG kvs k:=by simp[ZG,find?_cons,e]
   rw[this]
   exact⟨j,i⟩
theorem Rp(j:∀ a b,g a=g b->a=b){k:α}(i:Rep K H v y){ks:List (κ×V)}(h:PR K H g ks kvs):PR K H g (ZU ks (g k) v) (YF kvs k y):=by
 have e:=(Uq j (k:=k) h).1
 unfold ZU YF
 rw[UU,e]
 by_cases c:(ZG kvs k).isSome=true
 ·rw[if_pos c,if_pos c]
  clear e c
  induction h with
  | nil=>exact .nil
  | @cons p q r n f t m =>
   refine .cons ?_ m
   dsimp only
   by_cases e:q.1=k
   ·rw[if_pos e,if_pos (show p.1=g k by rw[f.1,e])];exact⟨f.1,i⟩
   ·rw[if_neg e,if_neg (λz=>e (j _ _ (f.1.symm.trans z)))];exact f
 ·rw[if_neg c,if_neg c]
  exact Paired.snoc h ⟨rfl,i⟩
theorem Rep.kV{k:Key}{x:V}(h:Rep K H x (Zx k)):x=L2.kV k:=by
 cases k with
 | inl i=>exact h.int_inv
 | inr z=>cases (show Rep K H x (.str z) from h);rfl
theorem Reps.kVs:∀ {ks:List Key} {xs:List V},Reps K H xs (ks.map Zx)->xs=ks.map L2.kV
 | [],_,.nil=>rfl
 | k::ks,_,.cons r rs=>by rw[Rep.kV r,Reps.kVs rs];rfl
abbrev en3(k:Key×List Key):PyData:=.tuple [Zx k.1,.tuple (k.2.map Zx)]
theorem Rq{a b:Key×List Key}(e:en3 a=en3 b):a=b:=by
 simp only[en3,PyData.tuple.injEq,List.cons.injEq,and_true] at e
 exact Prod.ext (Up e.1) (Tk e.2)
theorem Rep.keyN{k:Key×List Key}{x:V}(h:Rep K H x (en3 k)):∃ b,x=.ref b/\Xx H b k:=by
 obtain⟨b,xs,rfl,j,a⟩:=h.tuple_at
 cases a with
 | cons f a =>
  cases a with
  | cons e a =>
   cases a
   have n:=Rep.kV f
   subst n
   obtain⟨c,p,rfl,i,g⟩:=e.tuple_at
   have m:=Reps.kVs g
   subst m
   exact⟨b,rfl,c,j,i⟩
theorem Rr{ks:List (κ×V)}(h:PR K H g ks kvs):ks.length=kvs.length:=Paired.length h
theorem Y9{en:κ->PyData}{ks:List (κ×V)}(rs:Reps K H (ks.map Prod.snd) ds)(z:Zz f kvs=(ks.map λp=>en p.1).zip ds)(b:∀ a k,f a≠en k):kvs=[]/\ks=[]:=by
 have c:(Zz f kvs).length=ks.length:=by
  have:=rs.length
  rw[length_map] at this
  rw[z,List.length_zip,length_map]
  omega
 cases kvs with
 | nil=>exact⟨rfl,List.eq_nil_of_length_eq_zero c.symm⟩
 | cons q kvs =>
  cases ks with
  | nil=>cases c
  | cons k ks =>
   cases ds with
   | nil=>cases z
   | cons d ds=>exact absurd (congrArg (λl=>(l.headD (PyData.none,PyData.none)).1) z) (b q.1 k.1)
theorem IU{k:Key}:Zx k≠.none:=by cases k<;>exact λe=>nomatch e
theorem Rt(F:KEnc f){l:List (PyData×PyData)}:Zz f kvs≠(.none,z)::l:=λe=>by
 cases kvs with
 | nil=>cases e
 | cons q kvs =>
  have e:=congrArg (λl=>(l.headD (PyData.none,PyData.none)).1) e
  have e:f q.1=.none:=e
  rcases F.ex with⟨g,_,a⟩|⟨g,_,a⟩|⟨g,_,a⟩
  ·exact IU ((a _).symm.trans e)
  ·exact nomatch (a _).symm.trans e
  ·exact nomatch (a _).symm.trans e
theorem Ot(F:KEnc f){x y:V}{c:α}(m:Zf G H)(E:Rep K G y (.dict (Zz f kvs)))(p:Rep K H x (f c)) :
  ∃ a r,y=.ref a/\S2 H a x r/\r.isSome=(ZG kvs c).isSome/\∀ z,ZG kvs c=some z->∃ v,r=some v/\S1 H a x r/\Rep K G v z:=by
 generalize n:Zz f kvs=l at E
 cases E with
 | exc _ z=>exact absurd (n.trans z) (Rt F)
 | excF _ _ _ z=>exact absurd (n.trans z) (Rt F)
 | junk=>exact absurd n (Rt F)
 | @dK a ks ds _ i rs z =>
  have z:=n.trans z
  clear n
  rcases F.ex with⟨g,j,h⟩|⟨g,j,h⟩|⟨g,j,h⟩
  ·cases show f=λa=>Zx (g a) from funext h
   cases Rep.kV p
   obtain⟨u,s⟩:=Uq j (k:=c) (XC (λ_ _=>Up) z rs)
   exact⟨a,Yl ks (g c),rfl,.inl (.inl ⟨ks,g c,m.rd i,rfl,rfl⟩),u,λz hz=>let ⟨v,A,w⟩:=s z hz;⟨v,A,.inl (.inl ⟨ks,g c,m.rd i,rfl,rfl⟩),w⟩⟩
  ·cases show f=λa=>.tuple ((g a).map Zx) from funext h
   obtain⟨b,xs,rfl,B,C⟩:=p.tuple_at
   cases Reps.kVs C
   obtain⟨rfl,rfl⟩:=Y9 rs z λ_ _=>Ne.symm XW
   exact⟨a,none,rfl,.inr (.inr (.inl ⟨rfl,⟨g c,b,rfl,B⟩,m.rd i⟩)),rfl,λ_ z=>nomatch z⟩
  ·cases show f=λa=>en3 (g a) from funext h
   obtain⟨b,rfl,q⟩:=Rep.keyN p
   obtain⟨rfl,rfl⟩:=Y9 rs z λ_ _=>Ne.symm XW
   exact⟨a,none,rfl,.inr (.inr (.inr (.inr ⟨rfl,⟨g c,b,rfl,q⟩,.inl (m.rd i)⟩))),rfl,λ_ z=>nomatch z⟩
 | @dT a ks ds _ i rs z =>
  have z:=n.trans z
  clear n
  rcases F.ex with⟨g,j,h⟩|⟨g,j,h⟩|⟨g,j,h⟩
  ·cases show f=λa=>Zx (g a) from funext h
   cases Rep.kV p
   obtain⟨rfl,rfl⟩:=Y9 (en:=λk=>PyData.tuple (k.map Zx)) rs z λ_ _=>XW
   exact⟨a,none,rfl,.inr (.inl ⟨rfl,⟨g c,rfl⟩,m.rd i⟩),rfl,λ_ z=>nomatch z⟩
  ·cases show f=λa=>.tuple ((g a).map Zx) from funext h
   obtain⟨b,xs,rfl,B,C⟩:=p.tuple_at
   cases Reps.kVs C
   obtain⟨u,s⟩:=Uq j (k:=c) (XC (en:=λk=>PyData.tuple (k.map Zx)) (λ_ _ e=>Tk (PyData.tuple.inj e)) z rs)
   exact⟨a,Yl ks (g c),rfl,.inl (.inr ⟨ks,g c,b,m.rd i,rfl,B,rfl⟩),u,λz hz=>let ⟨v,A,w⟩:=s z hz;⟨v,A,.inl (.inr ⟨ks,g c,b,m.rd i,rfl,B,rfl⟩),w⟩⟩
  ·cases show f=λa=>en3 (g a) from funext h
   obtain⟨b,rfl,q⟩:=Rep.keyN p
   obtain⟨rfl,rfl⟩:=Y9 (en:=λk=>PyData.tuple (k.map Zx)) rs z λ_ _ e=>Tj (PyData.tuple.inj e).symm
   exact⟨a,none,rfl,.inr (.inr (.inr (.inr ⟨rfl,⟨g c,b,rfl,q⟩,.inr (m.rd i)⟩))),rfl,λ_ z=>nomatch z⟩
 | @dN a ks ds _ ne i rs z =>
  have z:=n.trans z
  clear n
  rcases F.ex with⟨g,j,h⟩|⟨g,j,h⟩|⟨g,j,h⟩
  ·cases show f=λa=>Zx (g a) from funext h
   exact absurd (Y9 (en:=en3) rs z λ_ _=>XW).2 ne
  ·cases show f=λa=>.tuple ((g a).map Zx) from funext h
   exact absurd (Y9 (en:=en3) rs z λ_ _ e=>Tj (PyData.tuple.inj e)).2 ne
  ·cases show f=λa=>en3 (g a) from funext h
   obtain⟨b,rfl,q⟩:=Rep.keyN p
   obtain⟨u,s⟩:=Uq j (k:=c) (XC (en:=en3) (λ_ _=>Rq) z rs)
   exact⟨a,Yl ks (g c),rfl,.inr (.inr (.inr (.inl ⟨_,g c,b,m.rd i,rfl,q,rfl⟩))),u,λz hz=>let ⟨v,A,w⟩:=s z hz;⟨v,A,.inr ⟨_,g c,b,m.rd i,rfl,q,rfl⟩,w⟩⟩
theorem Ou(F:KEnc f){o:HO}{x:V}{c:α}(hd:Yi K H o (Zz f kvs))(s:Rep K H x (f c))(hl:kvs.length<=1000000) :
  ∃ o',(∀ a,H a=some o->VF H a x v (upd H a o'))/\Mu o'/\∀ G y,Yi K G o (Zz f kvs)->Rep K G v y->Yi K G o' (Zz f (YF kvs c y)):=by
 rcases F.ex with⟨g,u,A⟩|⟨g,u,A⟩|⟨g,u,A⟩
 ·cases show f=λa=>Zx (g a) from funext A
  cases Rep.kV s
  rcases hd with⟨ks,ds,rfl,rs,z⟩|⟨ks,ds,rfl,rs,z⟩|⟨ks,ds,ne,rfl,rs,z⟩
  ·have p:=XC (λ_ _=>Up) z rs
   refine⟨.dK (ZU ks (g c) v),λa n=>.inl (YN.k n (small6 (by rw[Rr p];exact hl))),trivial,λG y r m=>?_⟩
   clear z rs s
   rcases r with⟨i,j,e,h,q⟩|⟨i,j,e,h,q⟩|⟨i,j,_,e,h,q⟩
   ·cases HO.dK.inj e
    have p':=Rp u (k:=c) m (XC (λ_ _=>Up) q h)
    exact .inl ⟨_,_,rfl,Tl p',Tm p'⟩
   ·exact nomatch e
   ·exact nomatch e
  ·obtain⟨rfl,rfl⟩:=Y9 (en:=λk=>PyData.tuple (k.map Zx)) rs z λ_ _=>XW
   exact⟨.dK [(g c,v)],λa n=>.inr (.inl ⟨g c,rfl,n,rfl⟩),trivial,λG y _ m=>.inl ⟨[(g c,v)],[y],rfl,.cons m .nil,rfl⟩⟩
  ·exact absurd (Y9 (en:=en3) rs z λ_ _=>XW).2 ne
 ·cases show f=λa=>.tuple ((g a).map Zx) from funext A
  obtain⟨b,xs,rfl,I,E⟩:=s.tuple_at
  cases Reps.kVs E
  clear s E
  rcases hd with⟨ks,ds,rfl,rs,z⟩|⟨ks,ds,rfl,rs,z⟩|⟨ks,ds,ne,rfl,rs,z⟩
  ·obtain⟨rfl,rfl⟩:=Y9 rs z λ_ _=>Ne.symm XW
   exact⟨.dT [(g c,v)],λa n=>.inr (.inr (.inl ⟨g c,b,rfl,I,n,rfl⟩)),trivial,λG y _ m=>.inr (.inl ⟨[(g c,v)],[y],rfl,.cons m .nil,rfl⟩)⟩
  ·have B:∀ a b:List Key,PyData.tuple (a.map Zx)=.tuple (b.map Zx)->a=b:=λ_ _ e=>Tk (PyData.tuple.inj e)
   have p:=XC (en:=λk=>PyData.tuple (k.map Zx)) B z rs
   refine⟨.dT (ZU ks (g c) v),λa n=>.inl (YN.t n I (small6 (by rw[Rr p];exact hl))),trivial,λG y r m=>?_⟩
   clear z rs
   rcases r with⟨i,j,e,h,q⟩|⟨i,j,e,h,q⟩|⟨i,j,_,e,h,q⟩
   ·exact nomatch e
   ·cases HO.dT.inj e
    have p':=Rp u (k:=c) m (XC (en:=λk=>PyData.tuple (k.map Zx)) B q h)
    exact .inr (.inl ⟨_,_,rfl,Tl p',Tm (en:=λk=>PyData.tuple (k.map Zx)) p'⟩)
   ·exact nomatch e
  ·exact absurd (Y9 (en:=en3) rs z λ_ _ e=>Tj (PyData.tuple.inj e)).2 ne
 ·cases show f=λa=>en3 (g a) from funext A
  obtain⟨b,rfl,C⟩:=Rep.keyN s
  clear s
  rcases hd with⟨ks,ds,rfl,rs,z⟩|⟨ks,ds,rfl,rs,z⟩|⟨ks,ds,ne,rfl,rs,z⟩
  ·obtain⟨rfl,rfl⟩:=Y9 rs z λ_ _=>Ne.symm XW
   exact⟨.dN [(g c,v)],λa n=>.inr (.inr (.inr (.inr ⟨g c,b,rfl,C,.inl n,rfl⟩))),trivial,λG y _ m=>.inr (.inr ⟨[(g c,v)],[y],(λz=>nomatch z),rfl,.cons m .nil,rfl⟩)⟩
  ·obtain⟨rfl,rfl⟩:=Y9 (en:=λk=>PyData.tuple (k.map Zx)) rs z λ_ _ e=>Tj (PyData.tuple.inj e).symm
   exact⟨.dN [(g c,v)],λa n=>.inr (.inr (.inr (.inr ⟨g c,b,rfl,C,.inr n,rfl⟩))),trivial,λG y _ m=>.inr (.inr ⟨[(g c,v)],[y],(λz=>nomatch z),rfl,.cons m .nil,rfl⟩)⟩
  ·have p:=XC (en:=en3) (λ_ _=>Rq) z rs
   refine⟨.dN (ZU ks (g c) v),λa n=>.inr (.inr (.inr (.inl ⟨ks,g c,b,n,rfl,C,small6 (by rw[Rr p];exact hl),rfl⟩))),trivial,λG y r m=>?_⟩
   rcases r with⟨i,j,e,h,q⟩|⟨i,j,e,h,q⟩|⟨i,j,J,e,h,q⟩
   ·cases e
   ·cases e
   ·cases e
    have p':=Rp u (k:=c) m (XC (en:=en3) (λ_ _=>Rq) q h)
    refine .inr (.inr ⟨_,_,λw=>ne ?_,rfl,Tl p',Tm (en:=en3) p'⟩)
    have:=congrArg List.length w
    unfold ZU at this
    split at this
    ·rw[length_map] at this;exact List.length_eq_zero_iff.mp this
    ·simp at this
end
section
variable{y:V}{b:TV}
theorem SR.writeD{kvs kvs':List (PyData×PyData)}(h:SR K H0 σ ρ (v::ts) (.av (.d z)::as) H)(L:Stb as)(hi:ρ[i]?=some (some (.dic kvs))) :
  ∃ l o,σ[i]?=some (some (.ref l))/\H l=some o/\Yi K H o kvs/\∀ o',Mu o'->(∀ G,Yi K G o kvs->Rep K G v z->Yi K G o' kvs')->SR K H0 σ (ρ.set i (some (.dic kvs'))) ts as (upd H l o'):=by
 obtain⟨⟨p,q,N,M,n,m⟩,s⟩:=h
 obtain⟨E,a,w,e,A,Q,P⟩:=N.frz hi λ_ _ _ _=>trivial
 cases M with
 | @cons _ _ _ _ R f _ r rs eq =>
  cases r with
  | av r =>
  cases r with
  | d C O =>
  cases Q with
  | @dic l o _ _ J j x =>
   refine⟨l,o,A,J,j.mono Ym,λo' mu F=>?_⟩
   have I:E l=1:=by have:=x l;simpa using this
   have ne:∀ b u,p b+q b=0->H b=some u->b≠l:=λb u z _ y=>by subst y;have:=e b;omega
   have c:Zf (hid H p q) (hid (upd H l o') p q):=W1 λb u z w=>⟨z,ne b u z w⟩
   have g:∀ b u,0<q b+a b->H b=some u->upd H l o' b=some u:=λb u z w=>by
    rw[Zn (λy=>by subst y;have:=n b;have:=e b;omega)];exact w
   have z:=P (hid (upd H l o') p q) (upd H l o') (.ref l) (.dic kvs') (λb=>if b=l then 1 else 0) (λb=>(if b=l then 1 else 0)+a b) c (λb u y=>g b u (by omega)) (.dic ZF (F _ (j.mono c) (C.same c)) λ_=>rfl) (λ_=>rfl)
   rw[Um A] at z
   have B:Zf H0 (upd H l o'):=s.updF (m l (by have:=e l;omega))
   refine SR.of_le (p:=p) (q:=q) (p':=λb=>(if b=l then 1 else 0)+a b) (q':=f) B n m (λb=>?_) z (rs.monoS c L λb o y=>g b o (by have:=eq b;omega))
   have:=x b;have:=e b;have:=eq b
   show (if b=l then 1 else 0)+a b+f b<=p b+q b
   omega
theorem SR.newD(h:SR K H0 σ ρ ts as H)(hl:H l=none):SR K H0 σ ρ (.ref l::ts) (.av (.dic [])::as) (upd H l (.dK [])):=by
 obtain⟨⟨p,q,f,e,n,j⟩,s⟩:=h
 have i:=SR.lsts f e
 have z:∀ b u,H b=some u->b≠l:=λb u y w=>by subst w;rw[hl] at y;cases y
 have r:p l+q l=0:=by
  rcases Nat.eq_zero_or_pos (p l+q l) with w|w
  ·exact w
  ·obtain⟨_,w,_⟩:=i l w;rw[hl] at w;cases w
 have m:Zf (hid H p q) (hid (upd H l (.dK [])) p (λb=>(if b=l then 1 else 0)+q b)):=W1 λb u y w=>by
  have:=z b u w
  refine⟨?_,this⟩
  show p b+((if b=l then 1 else 0)+q b)=0
  rw[if_neg this]
  omega
 have g:∀ b u,H b=some u->upd H l (.dK []) b=some u:=λb u y=>by rw[Zn (z b u y)];exact y
 have c:Zf H (upd H l (.dK [])):=YQ hl
 refine⟨⟨p,λb=>(if b=l then 1 else 0)+q b,f.mono m (λb o _=>g b o),.cons (.av (.dic ZF (.inl ⟨[],[],rfl,.nil,rfl⟩) λ_=>rfl)) (e.mono m c) (λ_=>rfl),λb=>?_,λb w=>?_⟩,s.trans c⟩
 ·have:=n b
  by_cases a:b=l
  ·subst a;simp;omega
  ·simp[a];omega
 ·by_cases a:b=l
  ·subst a;exact s.free hl
  ·refine j b ?_;simp[a] at w;omega
end
section
variable{E:FK}{X:Exc->Sl->Prop}{Q:TV->Prop}{a b:TV}
theorem IV(q:Q (.av (.dic []))):Ev K E X PJ ρ Q:=λe b ts as H c s x k=>λp a=>k _ q _ _ (s.newD a)
theorem Ru[DecidableEq α]{c:α}(F:KEnc f)(m:a.data=f c)(hb:b.data=.dict (Zz f kvs))(q:Q (.av (.d (.bool (!(ZG kvs c).isSome)))))(na:NR a:=by first|exact NR.av|exact NR.bor)(j:NR b:=by first|exact NR.av|exact NR.bor):Op K E X (S4 K true) a b Q:=λv n p ts as H x y u s _ k=>by
 have i:=s.pop.top na
 have h:=s.top j
 rw[m] at i
 rw[hb] at h
 obtain⟨l,r,rfl,g,e,_⟩:=Ot F (.refl H) h i
 refine .inr (.inl ⟨l,r,rfl,g,?_⟩)
 rw[if_pos rfl,e]
 exact k _ q _ H (s.pop.pop.bl _)
theorem Rv[DecidableEq α]{c:α}{d:TV}(F:KEnc f)(w:a.data=.dict (Zz f kvs))(hb:b.data=f c)(e:ZG kvs c=some z)(it:Zs a z d)(q:Q d)(na:NR a:=by first|exact NR.av|exact NR.bor)(u:NR b:=by first|exact NR.av|exact NR.bor):Op K E X (Tf K) a b Q:=λL C I ts as H x y J s _ k=>by
 have m:=s.top u
 rw[hb] at m
 obtain⟨v,⟨l,i,h⟩,p⟩:=s.pop.item na it (λv=>∃ l,x=.ref l/\S1 H l y (some v)) λG j n=>by
  rw[w] at j
  obtain⟨l,r,i,_,_,g⟩:=Ot F n j m
  obtain⟨v,h,B,A⟩:=g z e
  subst h
  exact⟨v,⟨l,i,B⟩,A⟩
 exact .inr (.inr (.inr ⟨l,v,i,h,k _ q _ H p⟩))
theorem Ov[DecidableEq α](F:KEnc f)(hi:ρ[n]?=some (some (.dic (Zz f kvs))))(hz:kvs.length<=1000000)(h:Ev K E X te ρ λa=>Ev K E X ti ρ λb=>∃ z c,a.sto=some (.d z)/\b.data=f c/\NR b/\DV.nx (ρ.set n (some (.dic (Zz f (YF kvs c z)))))) :
  Sv K E X (Yc te (Vr (Zu n) ti VG)) ρ DV:=λp e ts as H D g s x O=>by
 refine h p e ts as H _ s x λa N v P r=>?_
 obtain⟨l,o,m,T,S,_⟩:=(s.push (x:=.none) λ_=>.non).writeD (kvs':=Zz f kvs) g hi
 refine⟨.ref l,m,N p e _ _ P _ r x λb ⟨z,c,ea,eb,nb,q⟩ w H2 s2=>.inr ?_⟩
 have j:=s2.top nb
 rw[eb] at j
 obtain⟨R,Q,i,L,J,I⟩:=(s2.pop.sto ea).writeD (kvs':=Zz f (YF kvs c z)) g hi
 rw[m] at i
 cases i
 obtain⟨C,B,A,y⟩:=Ou (v:=v) F J j hz
 exact⟨l,_,rfl,B l L,O.nx _ q _ _ (I C A λG M u=>y G z M u)⟩
end
variable [Tabs]
def Z0:Fp:=λ_=>0
def spR(K:W.Frag)(Pre:List AV->Prop)(Post:List AV->AV->Prop)(PX:List AV->Exc->Prop):Sp:=λvs H Q E=>XS H /\
 ∃ as,RAs K H H vs as Z0/\Pre as/\(∀ c,Post as c->∀ v H',Rs K H H' v c->Q v H')/\∀ e,PX as e->∀ c d H',Zf H H'->S5 K H' e c d->E c d H'
def NP:List AV->Exc->Prop:=λ_ _=>False
abbrev inA(N:List Str)(as:List AV):Sl:=as.map some++List.replicate (N.length-as.length) none
abbrev VO(Post:AV->Prop):VEnds:=⟨λ_=>Post (.d .none),λa=>∃ c,Res a c/\Post c,λ_=>False,λ_=>False⟩
variable{cs:List AV}{Pre:List AV->Prop}{Post:List AV->AV->Prop}{PX:List AV->Exc->Prop}
section
variable{σ:L2.St}
theorem SR.startA(h:RAs K H H vs cs Z0):SR K H (L2.start N vs) (inA N cs) [] [] H:=by
 have g:=h.len
 have a:hid H (λ_=>0) (λ_=>0)=H:=by funext b;simp[hid]
 refine⟨⟨λ_=>0,λ_=>0,?_,.nil λ_=>rfl,λ_=>by simp,λb z=>by simp at z⟩,.refl H⟩
 rw[a]
 unfold L2.start inA
 rw[g]
 clear g
 generalize N.length-cs.length=m
 have f:∀ {vs:List V} {cs:List AV} {p:Fp},RAs K H H vs cs p->(∀ b,p b=0)->RSl K H H (vs.map some++List.replicate m none) (cs.map some++List.replicate m none) λ_=>0:=by
  intro vs cs
  induction vs generalizing cs with
  | nil =>
   intro p r _
   cases r
   simp only[map_nil,nil_append]
   clear h
   induction m with
   | zero=>exact .nil λ_=>rfl
   | succ m c=>exact .no c
  | cons v vs c =>
   intro p r z
   cases r with
   | @cons _ _ _ _ q n _ r rs e =>
    have j:∀ b,q b=0:=λb=>by have:=e b;have:=z b;omega
    have i:∀ b,n b=0:=λb=>by have:=e b;have:=z b;omega
    exact .so r (c rs i) λb=>by simp[j b]
 exact f h λ_=>rfl
theorem Tn{t:TS}{Qv:VK}{E:XK}(sp:spR K Pre Post PX vs H Qv E)
  (h:∀ cs,Pre cs->Sv K (toF E) (λe _=>PX cs e) t (inA N cs) (VO (Post cs))):t { nx:=λ_ H'=>Qv .non H',rt:=Qv } (L2.start N vs) H:=by
 obtain⟨n,cs,p,pre,q,u⟩:=sp
 refine h cs pre H _ [] [] H _ Stb.nil (SR.startA p) ⟨λe j z c d w H' s m=>u e z c d H' s.same m,n⟩ ⟨λj z i H' f=>?_,λ_ z=>z.elim,λ_ z=>z.elim,λa ⟨c,r,z⟩ v i ρ' H' f=>?_⟩
 ·exact q _ z _ _ (SR.rs (v:=.non) (f.push λ_=>.non))
 ·rcases r with rfl|⟨nr,rfl⟩
  ·exact q _ z _ _ f.rs
  ·refine q _ z _ _ ⟨f.same,λ_=>0,λ_=>by simp,λb z=>by simp at z,.d ?_ λ_=>rfl⟩
   have g:hid H' (λ_=>0) (λ_=>0)=H':=by funext b;simp[hid]
   rw[g]
   exact f.top nr
inductive Sh:TV->AV->Prop
 | d {b:TV} {x:PyData}:NR b->b.data=x->Sh b (.d x)
 | o {φ:V->Hp->Prop}:Sh (.av (.obj φ)) (.obj φ)
inductive Shs:List TV->List AV->Prop
 | nil:Shs [] []
 | cons {b:TV} {c:AV} {bs:List TV} {cs:List AV}:Sh b c->Shs bs cs->Shs (b::bs) (c::cs)
theorem SR.lent:∀ {vs:List V} {bs:List TV} {cs:List AV},Shs bs cs->vs.length=bs.length->SR K H0 σ ρ (vs++ts) (bs++as) H->RAs K H H vs cs Z0/\SR K H0 σ ρ ts as H
 | [],_,_,.nil,_,s=>⟨.nil λ_=>rfl,s⟩
 | [],_,_,.cons _ _,e,_=>by simp at e
 | v::vs,_,_,.nil,e,_=>by simp at e
 | v::vs,b::bs,c::cs,.cons h t,e,s=>by
  have a:SR K H0 σ ρ (v::(vs++ts)) (b::(bs++as)) H:=s
  obtain⟨r,f⟩:=SR.lent t (by simpa using e) a.pop
  refine⟨.cons (p:=Z0) (q:=Z0) ?_ r λ_=>rfl,f⟩
  cases h with
  | d g j=>exact .d (j▸a.top g) λ_=>rfl
  | o =>
   obtain⟨⟨p,q,x,i,w,u⟩,n⟩:=a
   cases i with
   | cons r rs e=>cases r with
    | av r=>cases r with
     | obj h m z=>exact .obj (m _ _ Ym h) m λ_=>rfl
end
section
variable{k:Nat}
theorem Ur{Q:VK}{E:XK}(h:spR K Pre Post PX vs H Q E)(a:∀ cs,Pre cs->cs.length=n):vs.length=n:=by
 obtain⟨_,cs,r,pre,_⟩:=h
 rw[r.len];exact a cs pre
theorem Wm(T:Tx K mg x st ps dvss)(i:FnScope N ps (Zd st))(c:∀ cs,Pre cs->cs.length=ps.length)
  (a:∀ (f:Addr) (cdv:Value) (A:Around) (outer:List Env) (s:Shared) (H:Hp) (E:XK),Room k (A.deeper (envOfC x (Zd st) s.heap.objs.size f cdv)) ->
   ∃ t,PSs (YM CX P w K mg base N x (Zd st) f cdv A outer s H E).nox (Zv st) t/\∀ cs,Pre cs->Sv K (toF E) NE t (inA N cs) (VO (Post cs))) :
  ∀ dvs∈dvss,Cal P w K mg base CX (k+1) x ps dvs (spR K Pre Post NP) :=
 T.cal (k:=k) i (λvs H Q E h=>Ur h c) λf cdv A outer s H vs Q E b h =>
  let ⟨t,g,e⟩:=a f cdv A outer s H E b
  ⟨t,g,Tn h λcs pre=>e cs pre⟩
end
section
variable{E:FK}{X:Exc->Sl->Prop}{Q:TV->Prop}{a:TV}
def ClR(Pre:List AV->Prop)(Post:List AV->AV->Prop)(PX:List AV->Exc->Prop)(dds:List AV)(Q:TV->Prop)(X:Exc->Prop)(bs:List TV):Prop :=
 ∃ cs,Shs bs cs/\Pre (cs++dds)/\(∀ c,Post (cs++dds) c->∃ a,Got c a/\Q a)/\∀ e,PX (cs++dds) e->X e
theorem RAs.app:∀ {vs a:List V} {xs ys:List AV},RAs K H H vs xs Z0->RAs K H H a ys Z0->RAs K H H (vs++a) (xs++ys) Z0:=by
 intro vs a xs ys h g
 have c:∀ {vs:List V} {xs:List AV} {p:Fp},RAs K H H vs xs p->(∀ b,p b=0)->RAs K H H (vs++a) (xs++ys) Z0:=by
  intro vs
  induction vs with
  | nil=>intro xs p r _;cases r;exact g
  | cons v vs n =>
   intro xs p r z
   cases r with
   | @cons _ _ _ _ m j _ r rs e =>
    have i:∀ b,m b=0:=λb=>by have:=e b;have:=z b;omega
    have f:∀ b,j b=0:=λb=>by have:=e b;have:=z b;omega
    exact .cons r (n rs f) λb=>by simp[Z0,i b]
 exact c h λ_=>rfl
theorem Rw:RAs K H H [] [] Z0:=.nil λ_=>rfl
theorem IW{dds:List AV}{A:TA}(hd:∀ H,RAs K H H dvs dds Z0)(h:Ea K E X A ρ (ClR Pre Post NP dds Q λ_=>True)):Ev K E X (WT (spR K Pre Post NP) dvs E' A) ρ Q:=λn f ts as H p s x k =>
 h n f ts as H _ s x λbs ⟨cs,sh,pre,q,_⟩ vs H' s' hl=>by
  obtain⟨i,b⟩:=SR.lent sh hl s'
  exact⟨x.t.same b.same,cs++dds,i.app (hd H'),pre,λc j v m r=>let ⟨a,g,z⟩:=q c j;k a z v m (b.gotG r g),λe z=>z.elim⟩
theorem IX{A:TA}(h:Ea K E X A ρ (ClR Pre Post NP [] Q λ_=>True)):Ev K E X (WT (spR K Pre Post NP) [] E' A) ρ Q:=IW (λ_=>Rw) h
end
variable [Tabs]
section
variable{E:FK}{X:Exc->Sl->Prop}{Q:TV->Prop}{bk:Sl->Prop}{tj:TE}{r:Sl}{a:AV}
theorem Wn(h:ρ[n]?=some (some (.obj φ)))(q:Q (.av (.obj φ))):Ev K E X (Zu n) ρ Q:=λF u ts as H C s _ k=>by
 have w:=s
 obtain⟨⟨p,q',a,i,f,c⟩,e⟩:=s
 obtain⟨y,x,v,B,r,j,A⟩:=a.frz h λ_ _ _ _=>trivial
 refine⟨v,r,k _ q v H ⟨⟨p,q',a,?_,f,c⟩,e⟩⟩
 cases j with
 | obj g m z=>exact .cons (.av (.obj (p:=λ_=>0) g m λ_=>rfl)) i λb=>by simp
theorem IY{kvs:List (PyData×PyData)}(q:Q (.bor (.dict kvs))):Ev K E X (Zu 1) (s0::some (.dic kvs)::r) Q:=W2 rfl q
theorem Ow[DecidableEq α](F:KEnc f)(hz:kvs.length<=1000000)(h:Ev K E X te (s0::some (.dic (Zz f kvs))::r) λa=>Ev K E X ti (s0::some (.dic (Zz f kvs))::r) λb=>∃ z c,a.sto=some (.d z)/\b.data=f c/\NR b/\nx (s0::some (.dic (Zz f (YF kvs c z)))::r)):Sv K E X (Yc te (Vr (Zu 1) ti VG)) (s0::some (.dic (Zz f kvs))::r) ⟨nx,rt,bk,ct⟩:=Ov (n:=1) F rfl hz h
theorem IZ(q:Q (.av (.obj φ))):Ev K E X (Zu 2) (s0::s1::some (.obj φ)::r) Q:=Wn rfl q
theorem Ha(q:Q (.av (.obj φ))):Ev K E X (Zu 3) (s0::s1::s2::some (.obj φ)::r) Q:=Wn rfl q
theorem Hb(q:Q (.av (.obj φ))):Ev K E X (Zu 4) (s0::s1::s2::s3::some (.obj φ)::r) Q:=Wn rfl q
theorem Hc{kvs:List (PyData×PyData)}(q:Q (.bor (.dict kvs))):Ev K E X (Zu 5) (s0::s1::s2::s3::s4::some (.dic kvs)::r) Q:=W2 rfl q
theorem Hd(q:Q (.av (.obj φ))):Ev K E X (Zu 5) (s0::s1::s2::s3::s4::some (.obj φ)::r) Q:=Wn rfl q
theorem He[DecidableEq α](F:KEnc f)(hz:kvs.length<=1000000)(h:Ev K E X te (s0::s1::s2::s3::s4::some (.dic (Zz f kvs))::r) λa=>Ev K E X ti (s0::s1::s2::s3::s4::some (.dic (Zz f kvs))::r) λb=>∃ z c,a.sto=some (.d z)/\b.data=f c/\NR b/\nx (s0::s1::s2::s3::s4::some (.dic (Zz f (YF kvs c z)))::r)):Sv K E X (Yc te (Vr (Zu 5) ti VG)) (s0::s1::s2::s3::s4::some (.dic (Zz f kvs))::r) ⟨nx,rt,bk,ct⟩:=Ov (n:=5) F rfl hz h
theorem Hf(q:Q (.av (.obj φ))):Ev K E X (Zu 6) (s0::s1::s2::s3::s4::s5::some (.obj φ)::r) Q:=Wn rfl q
theorem Hg(h:Ev K E X te (s0::s1::s2::s3::s4::s5::some (.own xs)::r) λa=>Ev K E X ti (s0::s1::s2::s3::s4::s5::some (.own xs)::r) λb=>∃ k j ys,b=.av (.d (.int k))/\ixN xs.length k=some j/\xs[j]?=some (.own ys)/\Pu K tj (s0::s1::s2::s3::s4::s5::some (.own xs)::r) λm=>∃ a' z,a.sto=some a'/\ixN ys.length m=some z/\nx (s0::s1::s2::s3::s4::s5::some (.own (xs.set j (.own (ys.set z a'))))::r)):Sv K E X (Yc te (Vr (tOp (rOr (WV K) r') (Zu 6) ti) tj VG)) (s0::s1::s2::s3::s4::s5::some (.own xs)::r) ⟨nx,rt,bk,ct⟩:=IR (n:=6) rfl h
theorem Hh(q:Q (.av (.obj φ))):Ev K E X (Zu 8) (s0::s1::s2::s3::s4::s5::s6::s7::some (.obj φ)::r) Q:=Wn rfl q
theorem Hi(q:Q (.av (.obj φ))):Ev K E X (Zu 9) (s0::s1::s2::s3::s4::s5::s6::s7::s8::some (.obj φ)::r) Q:=Wn rfl q
theorem Hj{a:Option AV}(q:Q (.av (.obj φ))):Ev K E X (Zu 10) (s0::s1::s2::s3::s4::s5::s6::s7::s8::a::some (.obj φ)::r) Q:=Wn rfl q
end
section
variable [DecidableEq α]
theorem Wo{p:α×β}{r:List (α×β)}{k:α}(e:p.1=k):ZG (p::r) k=some p.2:=by simp[ZG,find?_cons,e]
theorem Wp{p:α×β}{r:List (α×β)}{k:α}(e:¬ p.1=k):ZG (p::r) k=ZG r k:=by simp[ZG,find?_cons,e]
theorem Ox{k j:α}{y:β}:∀ kvs:List (α×β),ZG (kvs.map λa=>if a.1=k then (a.1,y) else a) j=(ZG kvs j).map λx=>if j=k then y else x
 | []=>rfl
 | p::r=>by
  have b:=Ox (k:=k) (j:=j) (y:=y) r
  rw[map_cons]
  by_cases h:p.1=k
  ·rw[if_pos h]
   by_cases e:p.1=j
   ·rw[Wo (p:=(p.1,y)) e,Wo e,Option.map_some,if_pos (e.symm.trans h)]
   ·rw[Wp (p:=(p.1,y)) e,Wp e,b]
  ·rw[if_neg h]
   by_cases e:p.1=j
   ·rw[Wo (p:=p) e,Wo e,Option.map_some,if_neg (λz=>h (e.trans z))]
   ·rw[Wp (p:=p) e,Wp e,b]
theorem Oy{k j:α}{y:β}:∀ kvs:List (α×β),ZG kvs k=none->ZG (kvs++[(k,y)]) j=if j=k then some y else ZG kvs j
 | [],_=>by
  by_cases e:k=j
  ·rw[if_pos e.symm];exact Wo (p:=(k,y)) e
  ·rw[if_neg (λz=>e z.symm)];exact Wp (p:=(k,y)) e
 | p::r,hn=>by
  rw[List.cons_append]
  have a:¬ p.1=k:=λz=>by rw[Wo z] at hn;cases hn
  rw[Wp a] at hn
  have b:=Oy (k:=k) (j:=j) (y:=y) r hn
  by_cases e:p.1=j
  ·rw[Wo e,Wo e,if_neg (λz=>a (e.trans z))]
  ·rw[Wp e,Wp e,b]
theorem Hk(kvs:List (α×β))(k j:α)(y:β):ZG (YF kvs k y) j=if j=k then some y else ZG kvs j:=by
 unfold YF
 by_cases a:(ZG kvs k).isSome=true
 ·rw[if_pos a,Ox]
  by_cases e:j=k
  ·obtain⟨x,b⟩:=Option.isSome_iff_exists.mp a
   rw[if_pos e,e,b,Option.map_some,if_pos rfl]
  ·rw[if_neg e]
   cases ZG kvs j with
   | none=>rfl
   | some x=>rw[Option.map_some,if_neg e]
 ·rw[if_neg a]
  refine Oy kvs ?_
  cases q:ZG kvs k with
  | none=>rfl
  | some x=>rw[q] at a;exact (a rfl).elim
theorem Hl(kvs:List (α×β))(k:α)(v:β):(YF kvs k v).length<=kvs.length+1:=by
 unfold YF
 split
 ·rw[length_map];omega
 ·rw[List.length_append];simp
end
variable [Tabs]
section
variable{P:Sl->Prop}{g1 g2:TG}{x:PyData}
theorem Tp(h:Gv K g1 x ρ λc=>Gv K g2 y c P):Gv K (Sz K 2 (Vq g1 (Vq g2 Sy))) (.tuple [x,y]) ρ P:=λj m ts as H v L s k=>by
 obtain⟨xs,⟨l,e,F⟩,E,u⟩:=s.items (es:=[x,y]) Kp.d (λxs=>∃ l,v=.ref l/\SqT K H l xs) (λG w n=>by
  obtain⟨l,xs,e,C,B⟩:=Rep.tuple_inv (ds:=[x,y]) w
  exact⟨xs,⟨l,e,n.tupS C⟩,B⟩) NR.av
 obtain⟨a,b,rfl⟩:=len2 E
 refine⟨l,[a,b],e,F,rfl,a,[b],rfl,h j m (b::ts) (.av (.d y)::as) H a _ u λc A g J r=>?_⟩
 exact⟨b,[],rfl,A j g ts as J b _ r λi p f I q=>⟨rfl,k i p f I q⟩⟩
end
section
variable{E:FK}{X:Exc->Sl->Prop}{bk:Sl->Prop}{c:TT}{t:TS}
theorem Hm(hn:nx ρ)(h:Tv K E X c ρ λb=>b=true->Sv K E X t ρ ⟨nx,rt,bk,ct⟩):Sv K E X (V8 c t UM) ρ ⟨nx,rt,bk,ct⟩:=S7 λg a ts as H f s x k=>h g a ts as H f s x λb q i e=>k b (by
 cases b with
 | true=>rw[if_pos rfl];exact q rfl
 | false=>rw[if_neg Bool.false_ne_true];exact Oe hn) i e
end
variable [Tabs]
section
variable{E:FK}{X:Exc->Sl->Prop}{Q:TV->Prop}
theorem Rx{cap:List (Option Nat)}(h:Iv K E X wi ρ λn f _=>n<=1000000/\∃ I:Nat->List AV->Prop,I 0 []/\(∀ i ys,i<n->I i ys->Gv K g (f i) (ZC cap ρ) λv=>Wk v (ZC cap ρ)/\Tv K E NE tt v λb=>if b=true then Ev K E NE te v λa=>∃ c,a.sto=some c/\I (i+1) (ys++[c]) else I (i+1) ys) /\
  ∀ ys,I n ys->∃ a,Got (.own ys) a/\Q a):Ev K E X (Xm cap wi g tt te) ρ Q:=λH0 F ts as H QV s x k =>
 h H0 F ts as H _ s x λn f hd ⟨hn,I,i0,turn,fin⟩ u J H1 nr s1 ok D hD=>by
  have G:XOk K E NE H1:=XOk.ne (x.t.same s1.same)
  have O:Zf H1 (upd H1 D (.lst [])):=YQ hD
  have N:Stb [TV.av (.d hd.data)]:=Stb.cons Stb.nil
  have start:SR K H1 (Yf cap F) (ZC cap ρ) [.ref D,u] [.av (.own []),.av (.d hd.data)] (upd H1 D (.lst [])):=by
   have m:Zf H1 (hid (upd H1 D (.lst [])) (λ_=>0) λb=>if b=D then 1 else 0):=λb o e=>by
    have A:b≠D:=Z5 e hD
    unfold hid
    simp[A]
    rw[Zn A]
    exact e
   refine⟨⟨λ_=>0,λb=>if b=D then 1 else 0,RSl.cap s1 m cap,.cons (.av (.own ZF (.nil (p:=λ_=>0) λ_=>rfl) (q:=λb=>if b=D then 1 else 0) λb=>by simp)) (.cons (.av (.d (p:=λ_=>0) ((s1.top nr).same m) λ_=>rfl)) (.nil (p:=λ_=>0) λ_=>rfl) (r:=λ_=>0) λb=>by simp) (λb=>by simp),λb=>by simp;split<;>omega,λb z=>?_⟩,O⟩
   by_cases A:b=D
   ·rw[A];exact hD
   ·simp[A] at z
  refine⟨λi m j C=>m=n-i/\i<=n/\∃ ys,I i ys/\ys.length<=i/\SR K H1 j (ZC cap ρ) [.ref D,u] [.av (.own ys),.av (.d hd.data)] C,⟨n,by simp,Nat.zero_le _,[],i0,Nat.le_refl _,start⟩,?_⟩
  rintro i m σ2 H2 ⟨rfl,hi,ys,iy,hly,s2⟩
  by_cases y:i<n
  ·obtain⟨g1,g2⟩:=s2.swap.turn ok y
   refine .inr ⟨g1,λj C=>∃ ys,I (i+1) ys/\ys.length<=i+1/\SR K H1 j (ZC cap ρ) [.ref D,u] [.av (.own ys),.av (.d hd.data)] C,λj C p=>⟨n-(i+1),by omega,rfl,y,p⟩,λw M Z=>?_⟩
   have S:=g2 w M Z
   refine turn i ys y iy H1 σ2 _ _ M w _ S λρ4 ⟨wk,tv⟩ σ4 H4 s4=>?_
   refine tv H1 σ4 _ _ H4 _ s4 G λb B H5 L=>?_
   cases b with
   | true =>
    rw[if_pos rfl] at B ⊢
    refine B H1 σ4 _ _ H5 _ L G λa ⟨c,e2,e1⟩ z H6 s6=>?_
    have R:=(s6.sto e2)
    have P:SR K H1 σ4 ρ4 [z,.ref D,u] [.av c,.av (.own ys),.av (.d hd.data)] H6:=by
     obtain⟨⟨p,q,Y,W,U,T⟩,e⟩:=R
     refine⟨⟨p,q,Y,?_,U,T⟩,e⟩
     cases W with
     | cons r rs eq=>exact .cons r rs.swap eq
    obtain⟨vs,h1,h2,h3⟩:=P.snocT N
    refine⟨vs,h1,small6 ?_,ys++[c],e1,by rw[List.length_append];simp;omega,wk _ _ _ _ _ _ h3⟩
    rw[h2]
    omega
   | false =>
    rw[if_neg Bool.false_ne_true] at B ⊢
    exact⟨ys,B,by omega,wk _ _ _ _ _ _ L.swap⟩
  ·have e:i=n:=by omega
   subst e
   obtain⟨a,hg,q⟩:=fin ys iy
   exact .inl ⟨s2.swap.halt NR.av rfl ok (Nat.le_refl _),k _ q _ _ (s1.pop.gotG s2.rs hg)⟩
theorem Hn{cap:List (Option Nat)}(h:Ev K E X ti ρ λa=>∃ (xs:List α) (e:α->PyData) (I:Nat->List AV->Prop),(a.data=.list (xs.map e)\/a.data=.tuple (xs.map e))/\NR a/\xs.length<=1000000/\I 0 [] /\
  (∀ i ys (hi:i<xs.length),I i ys->Gv K g (e xs[i]) (ZC cap ρ) λf=>Wk f (ZC cap ρ)/\Tv K E NE tt f λb=>if b=true then Ev K E NE te f λa=>∃ c,a.sto=some c/\I (i+1) (ys++[c]) else I (i+1) ys) /\
  ∀ ys,I xs.length ys->∃ a,Got (.own ys) a/\Q a):Ev K E X (Xm cap (VJ K ti) g tt te) ρ Q :=
 Rx (Rm (VH h (λa q=>by
  obtain⟨xs,e,I,r,m,p,n,turn,fin⟩:=q
  exact⟨xs.map e,r,m,by rw[length_map];exact p,I,n,λi ys hi j=>by
  rw[length_map] at hi
  show Gv K g ((xs.map e).getD i .none) _ _
  rw[VM hi]
  exact turn i ys hi j,λys j=>fin ys (by rw[length_map] at j;exact j)⟩)))
theorem Oz{C:Prop}(h:B):Tv K E NE WY ρ λb=>if b=true then B else C:=Tc (by rw[if_pos rfl];exact h)
end
variable [Tabs]
section
variable{E:FK}{X:Exc->Sl->Prop}
theorem Ho:Wg K (Ite K l) (.ref l) (.list ds) ds.length λi=>.tuple [.int i,ds.getD i .none]:=by
 intro G H g h
 obtain⟨r,a,q,n,f⟩:=h.list_inv
 cases q
 have c:=g.seq n
 refine⟨λi b=>?_,λi b=>⟨a,c,by rw[f.length];exact b⟩⟩
 obtain⟨w,e,j⟩:=f.get (i:=i) (d:=ds.getD i .none) (by rw[getD_eq_getElem?_getD,getElem?_eq_getElem b];rfl)
 refine⟨⟨a,w,c,e⟩,λx H' ⟨p,x0,hp,e1,e2,e3⟩=>?_⟩
 subst e1 e2
 have:=e3 a c
 rw[e] at this
 cases this
 exact⟨YQ hp,λs m k=>.tup (k p _ ZF hp) (.cons (.int i) (.cons (j.same m) .nil))⟩
theorem Hq{A:TA}{P:Nat->(Nat->PyData)->TV->Prop}(h:Ea K E X A ρ λbs=>∃ a ds,bs=[a]/\a.data=.list ds/\NR a/\P ds.length (λi=>.tuple [.int i,ds.getD i .none]) a.frz):Iv K E X (SZ K A) ρ P:=λj f ts as H R s x k =>
 h j f ts as H _ s x λbs ⟨a,ds,eb,e,na,q⟩ vs H' b hl=>by
  subst eb
  obtain⟨v,rfl,b⟩:=Y5 b hl
  have c:=b.top na
  rw[e] at c
  obtain⟨l,xs,rfl,g,m⟩:=c.list_inv
  refine⟨l,rfl,⟨xs,g⟩,k _ _ _ q (.ref l) _ H' (TV.frz_nr na) b.frzV ?_⟩
  rw[TV.frz_data,e]
  exact Ho
theorem Hr{bk:Sl->Prop}{A:TA}(h:Ea K E X A ρ λbs=>∃ (a:TV) (xs:List α) (e:α->PyData),bs=[a]/\a.data=.list (xs.map e)/\(∃ c,a=.av c)/\∃ f:Nat->Sl->Prop,f 0 ρ/\(∀ i b (hi:i<xs.length),f i b->Gv K g (.tuple [.int i,e xs[i]]) b λj=>Sv K E X tb j ⟨f (i+1),rt,nx,f (i+1)⟩)/\∀ b,f xs.length b->nx b):Sv K E X (Vs (SZ K A) g tb) ρ ⟨nx,rt,bk,ct⟩ :=
 Td (Hq λp m ts as H n s x k=>h p m ts as H n s x λbs ⟨a,xs,e,eb,ha,⟨c,hc⟩,f,i0,turn,fin⟩=>k bs ⟨a,xs.map e,eb,ha,by subst hc;exact NR.av,⟨c.data,by rw[hc];rfl⟩,f,i0,λi b hi w=>by
  rw[length_map] at hi
  show Gv K g (.tuple [.int i,(xs.map e).getD i .none]) b _
  rw[VM hi]
  exact turn i b hi w,λb w=>fin b (by rw[length_map] at w;exact w)⟩)
end
theorem Ry{items:Array Value}{x:Value}(a:s.heap.IsTupleIter it l i)(hl:s.heap.IsTuple l items)(g:items[i]?=some x)
  (j:∀ h',h'.IsTupleIter it l (i+1)->Heap.SameBut it s.heap h'->Q x { s with heap:=h' }):wpAny (model prog w) A (Builtin.SmallTypes.nextOf (.ref it)) Q E s:=by
 obtain⟨o,c,h,b⟩:=id a
 obtain⟨m,e,_,n,f⟩:=hl
 unfold Builtin.SmallTypes.nextOf
 refine wpAny_bind (wpAny_callSpecial?_slot (name:=Str.ofString "__next__") a.typeIs F.slot_tuple_iterator_next
  (wpAny_call_entry F.slot_tuple_iterator_next a.typeIs F.entry_tuple_iterator_next ?_ (F.args_tuple_iterator_next_1 _)))
 show wpAny _ _ (field (.ref it) 0 >>= _) _ _ s
 refine wpAny_bind (wpAny_field c b (x:=.ref l) rfl ?_)
 show wpAny _ _ (if (Value.ref l == Value.none)=true then _ else _) _ _ s
 rw[if_neg (show ¬ ((Value.ref l == Value.none)=true) from Bool.false_ne_true)]
 show wpAny _ _ (field (.ref it) 1 >>= _) _ _ s
 refine wpAny_bind (wpAny_field c b (x:=.int i 0) rfl ?_)
 show wpAny _ _ (seqItems? (.ref l) >>= _) _ _ s
 refine wpAny_bind (wpAny_seqItems e f ?_)
 simp only[Int.toNat_natCast,g]
 refine wpAny_bind (wpAny_setField c b (by simp) (wpAny_pure ⟨x,rfl,wpAny_pure (j _ ?_ (Heap.SameBut.update ..))⟩))
 exact⟨_,Heap.get?_update_self _ c (Obj.isFreed_of_fields (Obj.data_mapFields b _)),(Obj.cls_mapFields ..).trans h,by
  rw[Obj.data_mapFields b];simp[rawInt]⟩
theorem OA{items:Array Value}(j:A.handled=none)(b:s.heap.IsTupleIter it l i)(hl:s.heap.IsTuple l items)(n:items[i]?=none)
  (p:∀ h' e,Heap.ExtBut it s.heap h'->(∃ o,h'.get? e=some o/\o.cls=.type "StopIteration")->E (.ref e) { s with heap:=h' }):wpAny (model prog w) A (Builtin.SmallTypes.nextOf (.ref it)) Q E s:=by
 obtain⟨o,f,u,h⟩:=id b
 obtain⟨q,c,_,r,g⟩:=hl
 unfold Builtin.SmallTypes.nextOf
 refine wpAny_bind (wpAny_callSpecial?_slot (name:=Str.ofString "__next__") b.typeIs F.slot_tuple_iterator_next
  (wpAny_call_entry F.slot_tuple_iterator_next b.typeIs F.entry_tuple_iterator_next ?_ (F.args_tuple_iterator_next_1 _)))
 show wpAny _ _ (field (.ref it) 0 >>= _) _ _ s
 refine wpAny_bind (wpAny_field f h (x:=.ref l) rfl ?_)
 show wpAny _ _ (if (Value.ref l == Value.none)=true then _ else _) _ _ s
 rw[if_neg (show ¬ ((Value.ref l == Value.none)=true) from Bool.false_ne_true)]
 show wpAny _ _ (field (.ref it) 1 >>= _) _ _ s
 refine wpAny_bind (wpAny_field f h (x:=.int i 0) rfl ?_)
 show wpAny _ _ (seqItems? (.ref l) >>= _) _ _ s
 refine wpAny_bind (wpAny_seqItems c g ?_)
 simp only[Int.toNat_natCast,n]
 refine wpAny_bind (wpAny_rule (wpAny_bind (wpAny_setField f h (by simp) ?_)))
 show wpAny _ _ (newExc (.type "StopIteration") [] >>= _) _ _ _
 refine wpAny_bind ?_
 simp only[newExc,newTuple]
 refine wpAny_bind (wpAny_newObj_type ?_ (by size_fits))
 refine wpAny_bind (m:=firstArgMember _ _) (wpAny_of_eq (a:=Value.none) (by first|rfl|(simp only[firstArgMember];rfl)) ?_)
 refine wpAny_newObj_type ?_ (by size_fits)
 simp only[raiseNew]
 refine wpAny_bind (wpAny_handled ?_)
 first|rw[show A.in1.handled=none from j]|rw[j]
 refine wpAny_bind (wpAny_pure (wpAny_throw ?_))
 exact p _ _ (((Heap.SameBut.update ..).extBut.push _).push _) ⟨_,Heap.get?_push_size _ rfl,rfl⟩
theorem OB(n:A.handled=none)(it l:Addr)(f:l≠it)(items:Array Value) :
  Draws prog w A it [it,l] items.size (λi v=>items[i]?=some v) (λi h=>h.IsTupleIter it l i/\h.IsTuple l items) where
 live:=λ_ _ a=>let ⟨o,m,_⟩:=a.1;⟨o,m⟩
 frame:=λ_ _ _ a g=>⟨a.1.at λo e=>g it (by simp) o e,let ⟨o,e,r⟩:=a.2;⟨o,g l (by simp) o e,r⟩⟩
 item:=λi s Q E j a p=>by
  refine Ry a.1 a.2 (x:=items[i]) (by simp[j]) λh' c b=>?_
  exact p _ h' s.toks (by simp[j]) ⟨c,a.2.extBut b.extBut f⟩ b
 done:=λs Q E a q=>OA n a.1 a.2 (by simp) q
theorem Hs(l:Addr)(items:Array Value)(n:Nat)(e:Option Addr)(sl:Array (Option Value)) :
  Meets (Builtin.«enumerate.__new__» ⟨[.type "enumerate",.ref l],[]⟩) (λ_ R s=>s.heap.get? l=some { cls:=.type "tuple",dict:=e,data:=.seq items n,slots:=sl } /\
   R (.ok (.ret (.ref (s.heap.push { cls:=.type "tuple_iterator",data:=.fields #[.ref l,.int 0 0] }).objs.size)))
    { s with heap:=(s.heap.push { cls:=.type "tuple_iterator",data:=.fields #[.ref l,.int 0 0] }).push { cls:=.type "enumerate",data:=.fields #[.none,.bool false,.ref s.heap.objs.size,rawInt 0,.none,.none] } }) :=
 .of_wp λprog w A R s h=>by
  obtain⟨m,g,d,i,j⟩:=s;obtain⟨a,h⟩:=h
  have f:=sub_enumerate
  have b:Heap.IsTuple (Shared.heap ⟨m,g,d,i,j⟩) l items:=⟨_,a,rfl,n,rfl⟩
  wp_walk using wpAny_loadPart' a
  refine wpAny_stack_any λp=>wpAny_pure ?_
  split
  ·rename_i c _ _ _ _ _
   cases (c == Value.type "enumerate")
   ·wp_walk using wpAny_loadPart' a,wpAny_pyIter_tuple b
    exact⟨_,rfl,h⟩
   ·wp_walk using wpAny_loadPart' a,wpAny_pyIter_tuple b
    exact⟨_,rfl,h⟩
  ·wp_walk using wpAny_loadPart' a,wpAny_pyIter_tuple b
   exact⟨_,rfl,h⟩
theorem Ht{items:Array Value}(m:s.heap.IsTuple l items)
  (h:∀ h',IsEnum h' (s.heap.objs.size+1) s.heap.objs.size 0 .none->h'.IsTupleIter s.heap.objs.size l 0->h'.objs.size=s.heap.objs.size+2 ->
   (∀ b o,s.heap.get? b=some o->h'.get? b=some o)->Q (.ref (s.heap.objs.size+1)) { s with heap:=h' }) :
  wpAny (model prog w) A (call (.type "enumerate") [.ref l]) Q E s:=by
 obtain⟨⟨c,g,p,sl⟩,j,f,n,e⟩:=m
 replace f:c=.type "tuple" := f
 replace e:p=.seq items n:=e
 subst f e
 refine callType_new F.called_enumerate (by decide) (F.typeCall_enumerate_1 _) (F.newCall_enumerate_1 _) (λa=>F.args_object_init_2 a _) F.entry_enumerate_new
  (Hs l items n g sl) ⟨j,?_⟩
 have hz:(s.heap.push { cls:=.type "tuple_iterator",data:=.fields #[.ref l,.int 0 0] }).objs.size=s.heap.objs.size+1:=Heap.size_push ..
 show _/\_
 rw[hz]
 have i:IsEnum ((s.heap.push { cls:=.type "tuple_iterator",data:=.fields #[.ref l,.int 0 0] }).push
   { cls:=.type "enumerate",data:=.fields #[.none,.bool false,.ref s.heap.objs.size,rawInt 0,.none,.none] }) (s.heap.objs.size+1) s.heap.objs.size 0 .none:=by
  have:=Heap.get?_push_size (s.heap.push { cls:=.type "tuple_iterator",data:=.fields #[.ref l,.int 0 0] })
   (o:={ cls:=.type "enumerate",data:=.fields #[.none,.bool false,.ref s.heap.objs.size,rawInt 0,.none,.none] }) rfl
  rw[hz] at this;exact this
 refine⟨⟨_,i,rfl⟩,h _ i ⟨_,Heap.get?_push_of_some _ (Heap.get?_push_size _ rfl),rfl,rfl⟩ (by rw[Heap.size_push,hz]) λb o x=>Heap.get?_push_of_some _ (Heap.get?_push_of_some _ x)⟩
def Tq(K:W.Frag)(a:Addr)(n:Nat):It :=
  ⟨λi H=>∃ xs x,SqT K H a xs/\xs.length=n/\xs[i]?=some x,
   λi H v H'=>∃ p x,H p=none/\v=.ref p/\H'=upd H p (.tup [.int i,x])/\∀ xs,SqT K H a xs->xs[i]?=some x,
   λi H=>∃ xs,SqT K H a xs/\xs.length=n/\n<=i⟩
theorem Hu{x1}(a e it:Addr)(n:Nat)(y:e≠it)(L:a≠it)(hae:a≠e):Turn P w K (.Tuple es x1 tp) (Tq K a n) [e,it] e (λi h=>(i<=n/\∃ old,IsEnum h e it i old)/\h.IsTupleIter it a i) where
 mem:=by simp
 obj:=λi h j b f=>by
  obtain⟨⟨_,old,g⟩,o,m,T,hd⟩:=j
  have f:b=e\/b=it:=by simpa using f
  rcases f with rfl|rfl
  ·exact⟨_,g,λv z=>by cases (show Data.fields _=Data.cell v from z)⟩
  ·exact⟨o,m,λv z=>by rw[hd] at z;cases z⟩
 keep:=λi h h' j k=>by
  obtain⟨⟨R,old,g⟩,m⟩:=j
  exact⟨⟨R,old,k e (by simp) _ g⟩,m.at λo q=>k it (by simp) o q⟩
 item:=by
  intro X M U hK T i r s σ H E I S j Z
  subst M U hK
  obtain⟨xs,x,O,Q,C⟩:=Z
  obtain⟨⟨R,old,g⟩,m⟩:=j
  obtain⟨is,N,p,hz⟩:=I.tuple O
  have c:is.toArray.size=n:=by rw[size_toArray,<- N.length];exact Q
  have G:i<is.toArray.size:=by rw[c,<- Q];exact (List.getElem?_eq_some_iff.mp C).1
  refine wpAny_pyNext_enum_itemD (OB (A:=X.A.in1) (I.ok.hd T) it a L is.toArray) g ⟨m,p⟩ G y (by simp[y,hae.symm]) λu h' tk M ho W ht hsz k=>?_
  refine⟨_,rfl,wpAny_letOwnedTupleGo_enum ho λh2 he2 F=>?_⟩
  have B:=S e (by simp)
  have fi:=S it (by simp)
  obtain⟨u',hu,ru⟩:=N.get C
  have eu:u=u':=by
   have:=M
   simp only[List.getElem?_toArray] at this
   rw[hu] at this
   exact (Option.some.inj this).symm
  subst eu
  have I1:Inv X r σ (upd H s.heap.objs.size (.tup [.int i,x])) { s with heap:=h',toks:=tk+1 }:=I.enumed B fi k ht (.cons ⟨_,rfl⟩ (.cons ru .nil)) (by show 2<=sizeLine;decide)
  have J:e≠s.heap.objs.size:=Nat.ne_of_lt (Heap.lt_size g)
  have Y:it≠s.heap.objs.size:=by obtain⟨_,q,_⟩:=m;exact Nat.ne_of_lt (Heap.lt_size q)
  have I2:=I1.turned (h':=h2) (t':=tk+1) (it:=e) (λb o f q=>(F.2 b f).trans q) (by rw[Zn J];exact B.1) B.2.1 B.2.2.2.1 B.2.2.2.2.1 B.2.2.2.2.2
  refine⟨.ref s.heap.objs.size,_,I2,rfl,⟨s.heap.objs.size,x,I.hok.fresh (Nat.le_refl _),rfl,rfl,λys hy=>by rw[I.tuple_inj hy O];exact C⟩,⟨⟨by rw[<- c];exact G,u,by simpa using he2⟩,W.1.at λo q=>(F.2 it y.symm).trans q⟩,λb f=>?_⟩
  have f:b=e\/b=it:=by simpa using f
  rcases f with rfl|rfl
  ·rw[Zn J];exact B.1
  ·rw[Zn Y];exact fi.1
 done:=by
  intro X M U hK T i r s σ H E I S j Z
  subst M U hK
  obtain⟨xs,O,Q,C⟩:=Z
  obtain⟨⟨R,old,g⟩,m⟩:=j
  obtain⟨is,N,p,hz⟩:=I.tuple O
  have c:is.toArray.size=n:=by rw[size_toArray,<- N.length];exact Q
  obtain⟨f0,f1,f2,f3,f4,f5⟩:=S it (by simp)
  have e1:i=is.toArray.size:=by rw[c];exact Nat.le_antisymm R C
  rw[e1] at m
  exact wpAny_pyNext_enum_endD (OB (A:=X.A.in1) (I.ok.hd T) it a L is.toArray) g ⟨m,p⟩ λh' eb=>⟨rfl,I.turned (t':=s.toks) (λb o f e=>eb b o f e) f0 f1 f3 f4 f5⟩
 self:=λ_ _ _ _ _ j h=>by
  obtain⟨⟨_,old,g⟩,_⟩:=j
  exact wpAny_pyIter_enum g h
def Rz(K:W.Frag)(ta:TA):TI:=λσ H R=>ta σ H λvs H1=>∃ a xs,vs=[.ref a]/\SqT K H1 a xs/\R (Tq K a xs.length) H1
theorem OC{a:Expr}{x1}{p:Pos}(hK:X.K=K)(E:Gl X "enumerate")(B:X.mg "enumerate" = none)(i:PA X [a] ta)(y:starEach [a] X.env=[(false,eval a X.env)]:=by rfl) :
  PI X (.Tuple es x1 tp) (.Call (.Name "enumerate" p) [a] [] pos) (Rz K ta):=by
 subst hK
 intro c s m H R I h
 refine Call_ (WQ I E B PyProof.Rows.boot_enumerate (PyProof.Rows.callWith_type1 (thn (i pos c s m H _ I h) λus f F=>?_) y rfl))
 obtain⟨vs,u,g,w,a,xs,e,A,q⟩:=F
 subst e
 cases w with
 | cons r v =>
  cases v
  cases (show _=Value.ref a from r)
  obtain⟨x,J,p,hz⟩:=g.tuple A
  have i:a<f.heap.objs.size:=by obtain⟨o,e,_⟩:=id p;exact Heap.lt_size e
  refine Ht p λh' n C hsz k=>?_
  refine wpAny_pyIter_enum n ?_
  have G:Inv X c m u { f with heap:=h' }:=g.kept (t':=f.toks) k
  refine⟨_,[f.heap.objs.size+1,f.heap.objs.size],_,Tq X.K a xs.length,u,rfl,G,Hu a _ _ xs.length (Nat.ne_of_gt (Nat.lt_succ_self _)) (Nat.ne_of_lt i) (Nat.ne_of_lt (Nat.lt_succ_of_lt i)),⟨⟨Nat.zero_le _,_,n⟩,C⟩,λb j=>?_,q⟩
  have j:b=f.heap.objs.size+1\/b=f.heap.objs.size:=by simpa using j
  rcases j with rfl|rfl
  ·exact g.fpOk (Nat.le_succ _) (g.hok.fresh (Nat.le_succ _))
  ·exact g.fpOk (Nat.le_refl _) (g.hok.fresh (Nat.le_refl _))
variable [Tabs]
section
variable{E:FK}{X:Exc->Sl->Prop}
theorem Hv:Wg K (Tq K l ds.length) (.ref l) (.tuple ds) ds.length λi=>.tuple [.int i,ds.getD i .none]:=by
 intro G H g h
 obtain⟨r,a,q,n,e⟩:=h.tuple_inv
 cases q
 have c:=g.tupS n
 refine⟨λi b=>?_,λi b=>⟨a,c,e.length,b⟩⟩
 obtain⟨w,f,j⟩:=e.get (i:=i) (d:=ds.getD i .none) (by rw[getD_eq_getElem?_getD,getElem?_eq_getElem b];rfl)
 refine⟨⟨a,w,c,e.length,f⟩,λx H' ⟨p,x0,hp,e1,e2,e3⟩=>?_⟩
 subst e1 e2
 have:=e3 a c
 rw[f] at this
 cases this
 exact⟨YQ hp,λs m k=>.tup (k p _ ZF hp) (.cons (.int i) (.cons (j.same m) .nil))⟩
theorem OD{A:TA}{P:Nat->(Nat->PyData)->TV->Prop}(h:Ea K E X A ρ λbs=>∃ a ds,bs=[a]/\a.data=.tuple ds/\NR a/\P ds.length (λi=>.tuple [.int i,ds.getD i .none]) a.frz):Iv K E X (Rz K A) ρ P:=λm f ts as H R s x k =>
 h m f ts as H _ s x λbs ⟨a,ds,eb,e,na,q⟩ vs H' b hl=>by
  subst eb
  obtain⟨v,rfl,b⟩:=Y5 b hl
  have c:=b.top na
  rw[e] at c
  obtain⟨l,xs,rfl,j,g⟩:=c.tuple_inv
  refine⟨l,xs,rfl,j,k _ _ _ q (.ref l) _ H' (TV.frz_nr na) b.frzV ?_⟩
  rw[TV.frz_data,e,g.length]
  exact Hv
theorem Hw{bk:Sl->Prop}{A:TA}(h:Ea K E X A ρ λbs=>∃ (a:TV) (xs:List α) (e:α->PyData),bs=[a]/\a.data=.tuple (xs.map e)/\NR a/\(∃ d,a.frz=.av (.d d))/\∃ c:Nat->Sl->Prop,c 0 ρ/\(∀ i b (hi:i<xs.length),c i b->Gv K g (.tuple [.int i,e xs[i]]) b λf=>Sv K E X tb f ⟨c (i+1),rt,nx,c (i+1)⟩)/\∀ b,c xs.length b->nx b):Sv K E X (Vs (Rz K A) g tb) ρ ⟨nx,rt,bk,ct⟩ :=
 Td (OD λy j ts as H v s x k=>h y j ts as H v s x (λbs p=>by
  obtain⟨a,xs,e,u,r,m,q,c,n,turn,fin⟩:=p
  exact k bs ⟨a,xs.map e,u,r,m,q,c,n,λi b hi w=>by
  rw[length_map] at hi
  show Gv K g (.tuple [.int i,(xs.map e).getD i .none]) b _
  rw[VM hi]
  exact turn i b hi w,λb w=>fin b (by rw[length_map] at w;exact w)⟩))
end
variable{loose:List Str}{YP:World->Heap->Prop}{XP:(Str->Option Value)->Heap->Prop}
section
open PySem.Calls PySem.W
theorem Hx{l:OpenLaw}{q:Program}{d:DefRec}
  (hn:l.most=some n) (p:d.params.defaults=[])
  (call:∀ (w:World) (s₀ s₁:Shared) (mg mb:Str->Option Value) (i:Addr) (o:Obj) (pm cd doc:Value) (a:Addr) (vs:List Value) (ns:List Int),
   Ground q loose [] XP w s₀ mg mb s₁.heap->YP w s₁.heap ->
   s₁.heap.get? i=some o->o.data=.func (docDef d.name d.params d.body d.scope pm cd doc)->s₁.heap.CodeRec cd d.name->mg d.name=some (.ref i) ->
   s₁.heap.get? a=some { cls:=.type "list",data:=.seq vs.toArray }->IntsAre vs ns->ns.length<=n->s₁.gens=#[]->(∀ x∈ns,Builtin.Int.intBits x<=2 ^ 20) ->
   codeAny (model l.prog w) callerA (.call (.ref i) ⟨[.ref a],[]⟩) (λr s'=>r=.ok (.ret (.bool true))/\OldK s₁.heap s'.heap/\s'.os=s₁.os/\AllBare s'.gens) s₁) :
  WalkO q loose XP YP l.row.toRowW d [] (λf vs=>PySem.call f vs):=by
 intro w s₀ s₁ mg mb G Y i o pm cd doc N kV E J s y m I args v as c h B j H
 obtain rfl:N=.none:=Dflts.none y p
 obtain rfl:kV=.none:=Dflts.noKw y
 obtain⟨a,vs,ns,rfl,rfl,e,b,g⟩:=Att.KB hn c j
 refine enter_call (codeAny_mono (call w s₀ s₁ mg mb i o pm cd doc a vs ns G Y E (fd_plain J) s m e b g I ?_) λr s' C=>?_)
 ·intro x A
  have M:=(layW_cons h).1
  have u:=layableW_item M (.int x) (mem_map.mpr ⟨x,A,rfl⟩)
  exact PyData.bits_of_layable (PyData.layable0_of (λ_=>rfl) (layable_int u))
 obtain⟨rfl,u,L,K⟩:=C
 exact⟨.inl ⟨.bool true,.bool true,[],rfl,λ_=>rfl,.bool true,Att.KC l _,λ_=>⟨List.Pairwise.nil,λ_ F=>(nomatch F)⟩⟩,u,L,K⟩
end
variable{fo:Obj}{C:Addr->Prop}
section
open Classical
noncomputable def lend(C:Addr->Prop)(h:Heap)(H:Hp):Hp:=λb=>if C b then (h.get? b).map (λo=>HO.frz o (.own b)) else H b
noncomputable def unl(C:Addr->Prop)(H:Hp):Hp:=λb=>if C b then none else H b
noncomputable def rel(C:Addr->Prop)(H H':Hp):Hp:=λb=>if C b then H b else H' b
structure LendOk(C:Addr->Prop)(h:Heap)(H:Hp):Prop where
 no:∀ b,C b->H b=none
 obj:∀ b,C b->∃ o,h.get? b=some o
section
variable{fs ex:List Addr}
theorem Wq(hb:¬ C b):lend C h H b=H b:=if_neg hb
theorem Tr(L:LendOk C h H)(hb:C b):∃ o,h.get? b=some o/\lend C h H b=some (.frz o (.own b)):=by
 obtain⟨o,e⟩:=L.obj b hb
 exact⟨o,e,by unfold lend;rw[if_pos hb,e];rfl⟩
theorem W6{o:HO}(L:LendOk C h H)(e:H b=some o):lend C h H b=some o:=by
 have a:¬ C b:=λz=>by rw[L.no b z] at e;cases e
 rw[Wq a];exact e
theorem Hy(L:LendOk C h H):Zf H (lend C h H):=λb o e=>W6 L e
theorem Hz(L:LendOk C h H)(ok:HOk P w H h):HOk P w (lend C h H) h:=λa o e=>by
 by_cases b:C a
 ·obtain⟨f,c,g⟩:=Tr L b
  rw[g] at e
  cases e
  exact⟨c,f,c⟩
 ·rw[Wq b] at e
  exact (ok a o e).stay (λ_ _ _ q=>q) (λ_ q=>W6 L q) (λ_ _ q=>W6 L q) λ_ _ q=>W6 L q
theorem Ya(hb:¬ C b):unl C H b=H b:=if_neg hb
theorem W7(hb:C b):unl C H b=none:=if_pos hb
theorem RD(L:LendOk C h H)(un:Un fs ex (lend C h H) H' h h')(hb:C b):∃ o,h.get? b=some o/\H' b=some (.frz o (.own b)):=by
 obtain⟨o,c,a⟩:=Tr L hb
 exact⟨o,c,un.frzs b o _ a⟩
theorem HA(L:LendOk C h H)(un:Un fs ex (lend C h H) H' h h')(hok:HOk P w H' h')(g:∀ b,C b->b∉fs):Un fs ex H (unl C H') h h' where
 keep:=λb o e n f c=>by
  by_cases a:C b
  ·obtain⟨p,i,m⟩:=RD L un a
   rw[e] at i;cases i
   exact (hok b _ m).1
  ·exact un.keep b o e (by rw[Wq a];exact n) f c
 slot:=λb o e n f c=>un.slot b o e (by rw[Wq λa=>g b a f];exact n) f c
 free:=λb o e n c=>by
  by_cases a:C b
  ·exact W7 a
  ·rw[Ya a]
   exact un.free b o e (by rw[Wq a];exact n) c
 there:=un.there
 tups:=λb xs e=>by
  have a:¬ C b:=λz=>by rw[L.no b z] at e;cases e
  rw[Ya a]
  exact un.tups b xs (W6 L e)
 frzs:=λb o u e=>by
  have a:¬ C b:=λz=>by rw[L.no b z] at e;cases e
  rw[Ya a]
  exact un.frzs b o u (W6 L e)
 tbls:=λb j e=>by
  have a:¬ C b:=λz=>by rw[L.no b z] at e;cases e
  rw[Ya a]
  exact un.tbls b j (W6 L e)
theorem HB(L:LendOk C h H)(un:Un fs ex (lend C h H) H' h h')(hok:HOk P w H' h'):HOk P w (unl C H') h':=λa o e=>by
 have i:¬ C a:=λz=>by rw[W7 z] at e;cases e
 rw[Ya i] at e
 have g:∀ {b:Addr} {u:HO},H' b=some u->(∀ o,u≠.frz o (.own b))->unl C H' b=some u:=λ{b u} q n=>by
  have f:¬ C b:=λz=>by
   obtain⟨j,_,c⟩:=RD L un z
   rw[q] at c
   cases c
   exact n _ rfl
  rw[Ya f];exact q
 refine (hok a o e).stay (λ_ _ _ q=>q) (λb q=>g q λo z=>by cases z) (λb xs q=>g q λo z=>by cases z) λb m q=>?_
 have f:¬ C b:=λz=>by
  obtain⟨j,_,c⟩:=RD L un z
  rw[q] at c
  cases c
  exact i z
 rw[Ya f];exact q
theorem Ts(hb:C b):rel C H H' b=H b:=if_pos hb
theorem Wr(hb:¬ C b):rel C H H' b=H' b:=if_neg hb
theorem Tu(g:∀ b,C b->∃ o,H b=some (.frz o (.own b))){o:HO}(e:H b=some o)(n:∀ c,o≠.frz c (.own b)):unl C H b=some o:=by
 have f:¬ C b:=λz=>by obtain⟨h,a⟩:=g b z;rw[e] at a;cases a;exact n _ rfl
 rw[Ya f];exact e
theorem HC(c:∀ b,C b->∃ o,H b=some (.frz o (.own b)))(hok:HOk P w H h):HOk P w (unl C H) h:=λa o e=>by
 have f:¬ C a:=λz=>by rw[W7 z] at e;cases e
 rw[Ya f] at e
 refine (hok a o e).stay (λ_ _ _ q=>q) (λb q=>Tu c q λo z=>by cases z) (λb xs q=>Tu c q λo z=>by cases z) λb j q=>?_
 have i:¬ C b:=λz=>by
  obtain⟨m,g⟩:=c b z
  rw[q] at g
  cases g
  exact f z
 rw[Ya i];exact q
theorem HD(j:∀ b,C b->∃ o,H b=some (.frz o (.own b)))(p:HOk P w H h)(un:Un fs ex (unl C H) H' h h')(i:∀ b,C b->b∉fs/\b∉ex):Un fs ex H (rel C H H') h h' where
 keep:=λb o e n g f=>by
  have a:¬ C b:=λz=>by obtain⟨m,c⟩:=j b z;rw[n] at c;cases c
  exact un.keep b o e (by rw[Ya a];exact n) g f
 slot:=λb o e n g f=>un.slot b o e (by rw[Ya λa=>(i b a).1 g];exact n) g f
 free:=λb o e n f=>by
  have a:¬ C b:=λz=>by obtain⟨m,c⟩:=j b z;rw[n] at c;cases c
  rw[Wr a]
  exact un.free b o e (by rw[Ya a];exact n) f
 there:=un.there
 tups:=λb xs e=>by
  by_cases a:C b
  ·rw[Ts a];exact e
  ·rw[Wr a];exact un.tups b xs (by rw[Ya a];exact e)
 frzs:=λb o u e=>by
  by_cases a:C b
  ·rw[Ts a];exact e
  ·rw[Wr a];exact un.frzs b o u (by rw[Ya a];exact e)
 tbls:=λb q e=>by
  have a:¬ C b:=λz=>by obtain⟨m,c⟩:=j b z;rw[e] at c;cases c
  rw[Wr a];exact un.tbls b q (by rw[Ya a];exact e)
theorem OE(f:∀ b,C b->∃ o,H b=some (.frz o (.own b)))(a:HOk P w H h)(un:Un fs ex (unl C H) H' h h')(c:∀ b,C b->b∉fs/\b∉ex)(hb:C b):H' b=none:=by
 obtain⟨o,e⟩:=f b hb
 exact un.free b o (a b _ e).1 (W7 hb) (c b hb).2
theorem HE(m:∀ b,C b->∃ o,H b=some (.frz o (.own b)))(c:HOk P w H h)(un:Un fs ex (unl C H) H' h h')(f:∀ b,C b->b∉fs/\b∉ex)(hok:HOk P w H' h'):HOk P w (rel C H H') h':=λa o e=>by
 by_cases g:C a
 ·rw[Ts g] at e
  obtain⟨i,n⟩:=m a g
  rw[n] at e
  cases e
  have:=un.keep a i (c a _ n).1 (W7 g) (f a g).1 (f a g).2
  exact⟨this,i,this⟩
 ·rw[Wr g] at e
  have j:∀ {b:Addr} {u:HO},H' b=some u->rel C H H' b=some u:=λ{b u} q=>by
   have p:¬ C b:=λz=>by rw[OE m c un f z] at q;cases q
   rw[Wr p];exact q
  exact (hok a o e).stay (λ_ _ _ q=>q) (λb q=>j q) (λb xs q=>j q) λb i q=>j q
end
structure CloOk(P:Program)(w:World)(K:W.Frag)(mg:Str->Option Value)(base:Heap)(CX:CXT)(k:Nat)(sp:Sp)(v:V)(G:Hp):Prop where
 at':∃ f fo fd,v=.ref f/\G f=some (.frz fo (.own f))/\fo.data=.func fd
 run:∀ f,v=.ref f->∀ (A:Around) (outer:List Env) (s:Shared) (H:Hp) (us:List Value) (vs:List V) (Q:VK) (E:XK),Room k A->Env0 P w K mg base A outer s H->Zf G H->Zm vs us->sp vs H Q E ->
  codeAny (model P w) A (.call (.ref f) ⟨us,[]⟩) (CR CX outer P w H s Q E) s
theorem CloOk.same{k:Nat}(c:CloOk P w K mg base CX k sp v G)(m:Zf G G'):CloOk P w K mg base CX k sp v G' :=
 ⟨let ⟨f,fo,i,e,h,d⟩:=c.at';⟨f,fo,i,e,m _ _ h,d⟩,λf e A a s H us vs Q E g j b=>c.run f e A a s H us vs Q E g j (m.trans b)⟩
section
variable{k:Nat}{E:XK}{p:Pos}{t:TA}
theorem HF{Q:VK}{f:Addr}(c:CloOk X.prog X.w X.K X.mg X.base CX k sp (.ref f) H)(i:Room k X.A)(g:WU CX X E)
  (I:Inv X pins σ H s) (r:Zm vs us) (h:sp vs H Q E):wpAny (model X.prog X.w) X.A (call (.ref f) us) (EP X pins σ Q) X.xe s:=by
 refine wpAny_call (codeAny_mono (c.run f rfl X.A X.stack s H us vs Q E i I.env0 (.refl H) r h) λr b a=>?_)
 cases r with
 | error e=>exact g pins σ H s e b I a
 | ok j =>
  cases j with
  | ret u=>exact I.after a
  | next=>exact False.elim a
  | brk=>exact False.elim a
  | cont=>exact False.elim a
def RE(P:Program)(w:World)(K:W.Frag)(mg:Str->Option Value)(base:Heap)(CX:CXT)(k:Nat)(i:Nat)(E:XK)(t:TA):TE:=λσ H Q =>
 ∃ v sp,σ[i]?=some (some v)/\CloOk P w K mg base CX k sp v H/\t σ H λvs H1=>CloOk P w K mg base CX k sp v H1/\sp vs H1 Q E
theorem OF{f:Addr}(I:Inv X pins σ H s)(h:H f=some (.frz fo (.own f)))(d:fo.data=.func fd):PySem.W.FnAt f s.heap:=by
 have e:=(I.hok f _ h).1
 obtain⟨b,a,c,sl⟩:=fo
 cases (show c=_ from d)
 exact⟨b,a,fd,sl,e⟩
theorem HG(F:Room k X.A)(B:WU CX X E)(J:PA X (e::es) t)(K:X.N[i]?=some x:=by rfl)(C:Vis X.env.scope x:=by first|exact Or.inl rfl|exact Or.inr (Or.inl rfl)|exact Or.inr (Or.inr rfl))
  (hd:(x == ("__debug__" : Str))=false:=by decide) (g:(x == ("__classdict__" : Str))=false:=by decide)
  (G:starEach (e::es) X.env=(false,eval e X.env)::starEach es X.env:=by rfl) (b:(backTo pos (starEach es X.env)).any (·.1)=false:=by rfl) :
  PE X (.Call (.Name x p) (e::es) [] pos) (RE X.prog X.w X.K X.mg X.base CX k i E t):=by
 intro a s y H Q I ⟨v,sp,hσ,c,h⟩
 refine wpAny_Call_Name_kw (thn (Q7 (pos:=p) K C hd g a s y H (λA w=>A=v/\w=H) I ⟨v,hσ,rfl,rfl⟩) λu s0 ⟨A,w,I0,r0,ev,eH⟩=>?_)
 subst ev eH
 obtain⟨f,fo,R,P,O,N⟩:=c.at'
 subst P
 obtain rfl:u=Value.ref f:=r0
 refine PySem.W.callWith_F (OF I0 O N) (thn (J pos a s0 y w _ I0 h) λus s1 ⟨vs,H1,I1,r,c1,q⟩=>?_) G b
 obtain⟨S,L,M,n,m,j⟩:=c1.at'
 cases n
 exact⟨OF I1 m j,HF c1 F B I1 r q⟩
end
def Own(X:Cx)(b:Addr):Prop:=∃ x,X.fn x=true/\X.env.cells.lookup x=some b
structure Lent(X:Cx)(σ:St)(H H2:Hp):Prop where
 same:Zf H H2
 cell:∀ (i:Nat) (x:Str) (c:Addr) (v:V),X.N[i]?=some x->X.fn x=true->X.env.scope.names.lookup x=some .cell->X.env.cells.lookup x=some c->σ[i]?=some (some v)->∃ o u,H2 c=some (.frz o (.own c))/\o.data=.cell (some u)/\Zo v u
 out:∀ b,¬ Own X b->H2 b=H b
 own:∀ b,Own X b->H b=none/\∃ o v,H2 b=some (.frz o (.own b))/\o.data=.cell v
theorem Inv.lendOk(I:Inv X pins σ H s):LendOk (Own X) s.heap H :=
 ⟨λb ⟨x,_,e⟩=>I.freeC x b e,λb ⟨x,_,e⟩=>let ⟨_,o,h,_⟩:=I.cell x b e;⟨o,h⟩⟩
theorem Inv.own_low(I:Inv X pins σ H s)(h:Own X b):X.s₀.heap.objs.size<=b:=let ⟨x,a,e⟩:=h;I.ok.cab x b a e
theorem Inv.own_fs(I:Inv X pins σ H s)(h:Own X b):b∉frs X.stack:=λa=>by
 rcases mem_cons.mp (I.stkSub b a) with e|a
 ·obtain⟨x,_,q⟩:=h
  exact I.cne x b q e
 ·obtain⟨_,o,c,_⟩:=I.ok.funs.mem a
  exact absurd (Nat.lt_of_lt_of_le (Heap.lt_size c) (I.own_low h)) (Nat.lt_irrefl _)
theorem Inv.env0L(I:Inv X pins σ H s):Env0 X.prog X.w X.K X.mg X.base X.A X.stack s (lend (Own X) s.heap H):=by
 have e:=I.env0
 refine⟨e.frames,e.mod,λb o q=>⟨(e.bs b o q).1,?_⟩,e.bsz,e.funs,λb a=>?_,Hz I.lendOk e.hok,e.bare⟩
 ·rw[Wq]
  ·exact (e.bs b o q).2
  ·intro h
   exact absurd (Nat.lt_of_lt_of_le (Heap.lt_size q) (Nat.le_trans I.ok.bsz (I.own_low h))) (Nat.lt_irrefl _)
 ·rw[Wq λh=>I.own_fs h a]
  exact e.frf b a
theorem Inv.lent(I:Inv X pins σ H s):Lent X σ H (lend (Own X) s.heap H):=by
 refine⟨Hy I.lendOk,λi x c v B A w g j=>?_,λb h=>Wq h,λb h=>⟨I.lendOk.no b h,?_⟩⟩
 ·obtain⟨m,C,a⟩:=I.loc
  obtain⟨u,r,l⟩:=a i x v B j (.inr (.inl w))
  obtain⟨o,q,p⟩:=Tr I.lendOk (b:=c) ⟨x,A,g⟩
  rcases l with⟨a,_⟩|⟨_,E,e,y,f,n⟩
  ·have a:X.env.scope.names.lookup x=some .local:=a
   rw[w] at a
   cases a
  ·rw[g] at e
   cases e
   rw[q] at f
   cases f
   exact⟨o,u,p,n,r⟩
 ·obtain⟨o,q,p⟩:=Tr I.lendOk h
  obtain⟨x,_,g⟩:=h
  obtain⟨v,y,f,n⟩:=I.cell x b g
  rw[q] at f
  cases f
  exact⟨o,v,p,n⟩
def OG(X:Cx)(sp:Sp)(dvs:List V)(E:XK)(t:TA):TE:=λσ H Q=>t σ H λvs H1=>∀ H2,Lent X σ H1 H2->sp (vs++dvs) H2 (λv H3=>Q v (unl (Own X) H3)) E
def RF(CX:CXT)(X:Cx)(E:XK):Prop:=∀ (pins:List (Addr×Obj)) (σ:St) (H:Hp) (s:Shared) (e:Value) (s':Shared),Inv X pins σ H s->CX X.stack (lend (Own X) s.heap H) s E e s'->X.xe e s'
theorem W8{E:XK}:RF CX0 X E:=λ_ _ _ _ _ _ _ h=>h.elim
section
variable{k:Nat}{f:Addr}{ds:List Value}{E:XK}{p:Pos}{t:TA}
theorem HH{Q:VK}(F:FnOk X.prog X.w X.K X.mg X.base CX k f fd ps sp)(p:Room k X.A)(hb:Wd X.K fd ps ds)(hd:Zm dvs ds)(n:RF CX X E)
  (I:Inv X pins σ H s) (r:Zm vs us) (h:∀ H2,Lent X σ H H2->sp (vs++dvs) H2 (λv y=>Q v (unl (Own X) y)) E):wpAny (model X.prog X.w) X.A (call (.ref f) us) (EP X pins σ Q) X.xe s:=by
 have i:Zm (vs++dvs) (us++ds):=r.append hd
 have h:=h _ I.lent
 have w:(us++ds).length=ps.length:=by rw[<- i.length];exact F.len _ _ _ _ h
 refine wpAny_call (codeAny_mono (F.run X.A X.stack s _ ⟨us,[]⟩ (us++ds) (vs++dvs) _ E p I.env0L (hb s us I.kIn w) i h) λr j a=>?_)
 cases r with
 | error e=>exact n pins σ H s e j I a
 | ok x =>
  cases x with
  | ret u =>
   obtain⟨v,A,m,g,un,c,r,q⟩:=a
   exact I.after ⟨v,unl (Own X) A,m,g,HA I.lendOk un c λb hb=>I.own_fs hb,HB I.lendOk un c,r,q⟩
  | next=>exact False.elim a
  | brk=>exact False.elim a
  | cont=>exact False.elim a
theorem W9(c:Cal X.prog X.w X.K X.mg X.base CX k x ps dvs sp)(m:Room k X.A)(n:Gl X x)(j:RF CX X E)(v:PA X (e::es) t)(g:(x == ("__debug__" : Str))=false:=by decide)
  (u:starEach (e::es) X.env=(false,eval e X.env)::starEach es X.env:=by rfl) (b:(backTo pos (starEach es X.env)).any (·.1)=false:=by rfl) :
  PE X (.Call (.Name x p) (e::es) [] pos) (OG X sp dvs E t):=by
 obtain⟨f,F,ds,C,B,A,y,w⟩:=c.ex
 intro a s i H Q I h
 refine wpAny_Call_Name_kw (Su I n B ?_ g)
 refine PySem.W.callWith_K (h₀:=X.base) I.ok.mod.kin A (thn (v pos a s i H _ I h) λus s1 ⟨vs,H1,I1,r,q⟩=>⟨I1.kIn,?_⟩) u b
 exact HH C m y w j I1 r q
end
end
theorem HI{a b:Nat}{c f:Value}(l:List Value)(h:TriplesOk l)(e:codeAmong pos (l++[rawInt a,rawInt b,c])=some f):codeAmong pos l=some f\/(pos.line=a/\pos.col=b/\f=c):=by
 fun_induction TriplesOk l with
 | case1 =>
  simp only[nil_append,rawInt,codeAmong] at e
  split at e
  ·rename_i hq
   simp only[Bool.and_eq_true,beq_iff_eq] at hq
   exact .inr ⟨by omega,by omega,(Option.some.inj e).symm⟩
  ·cases e
 | case2 p t n u x g i =>
  simp only[List.cons_append,codeAmong] at e ⊢
  split at e
  ·rename_i hq;rw[if_pos hq];exact .inl e
  ·rename_i hq;rw[if_neg hq];exact i h e
 | case3 l m j=>exact h.elim
def RG(name qual:Str)(params:Arguments)(body:List Stmt)(scope:Scope)(cl:List (Str×Addr))(P:Addr)(H H':Hp)(f:Addr):Prop :=
 ∃ (c:Addr) (co:Obj) (doc pm ctv:Value),Vm co qual/\(H c=none\/H c=some (.frz co (.own P)))/\c≠f/\H f=none/\H'=upd (upd H c (.frz co (.own P))) f (.frz (PySem.W.fnMade name qual params body scope cl doc pm c ctv) (.own f))
theorem HJ{c:Addr}{o:HO}(h:H c=some o):upd H c o=H:=by
 funext b
 by_cases e:b=c
 ·rw[e,ZF,h]
 ·rw[Zn e]
theorem RG.same{cl:List (Str×Addr)}{P f:Addr}(m:RG name qual params body scope cl P H H' f):Zf H H':=by
 obtain⟨c,co,j,p,n,_,i,g,h,rfl⟩:=m
 intro b o e
 rw[Zn (Z5 e h)]
 by_cases a:b=c
 ·subst a
  rcases i with z|z
  ·rw[z] at e;cases e
  ·rw[ZF,<- z,e]
 ·rw[Zn a];exact e
structure Clos(X:Cx)(scope:Scope)(cl:List (Str×Addr)):Prop where
 le:∀ x c,cl.lookup x=some c->X.env.cells.lookup x=some c
 has:∀ x,(x,NameKind.free)∈scope.names->∃ c,cl.lookup x=some c
 inj:∀ x y c,cl.lookup x=some c->cl.lookup y=some c->x=y
def tDef(X:Cx)(name qual:Str)(params:Arguments)(body:List Stmt)(scope:Scope)(P:Addr)(pos:Pos)(i:Nat):TS:=λD σ H =>
 ∃ q,H P=some (.tbq q)/\q pos.line pos.col=qual/\∀ cl f H',Clos X scope cl->RG name qual params body scope cl P H H' f->D.nx (σ.set i (some (.ref f))) H'
variable{co:Obj}{c0:Addr}
theorem Inv.fnMade{P c:Addr}{q:Nat->Nat->Str}{ps:Array Value}(I:Inv X pins σ H s)(E:H P=some (.tbq q))(Y:s.heap.get? P=some (PySem.W.tabObj ps))(K:TriplesOk ps.toList)
  (y:∀ pos cv,codeAmong pos ps.toList=some cv->∃ c o,cv=.ref c/\H c=some (.frz o (.own P))/\Vm o (q pos.line pos.col))
  (S:Heap.ExtBut P s.heap h') (i:s.heap.objs.size<=c) (v:c<h'.objs.size) (x:h'.get? c=some co) (T:Vm co (q pos.line pos.col)) (p:h'.get? P=some (PySem.W.tabObj (ps++#[rawInt pos.line,rawInt pos.col,.ref c]))) (w:fo.isFreed=false) :
  Inv X pins σ (upd (upd H c (.frz co (.own P))) h'.objs.size (.frz fo (.own h'.objs.size))) { s with heap:=h'.push fo,toks:=t' }:=by
 have m:H c=none:=I.hok.fresh i
 have hsz:s.heap.objs.size<=h'.objs.size:=Nat.le_trans i (Nat.le_of_lt v)
 have j:H h'.objs.size=none:=I.hok.fresh hsz
 have W:c≠P:=λz=>by rw[z,E] at m;cases m
 have U:h'.objs.size≠P:=λz=>by rw[z,E] at j;cases j
 have G:c≠h'.objs.size:=Nat.ne_of_lt v
 have h:∀ {b:Addr} {u:HO},H b=some u->upd (upd H c (.frz co (.own P))) h'.objs.size (.frz fo (.own h'.objs.size)) b=some u:=λ{b u} e=>by
  rw[Zn (Z5 e j),Zn (Z5 e m)];exact e
 have F:∀ b o,b≠P->s.heap.get? b=some o->(h'.push fo).get? b=some o:=λb o f e=>Heap.get?_push_of_some _ (S b o f e)
 have J:∀ {b:Addr},H b=none->b≠P:=λ{b} n z=>by rw[z,E] at n;cases n
 refine I.un ⟨λb u q n _ _=>F b u (J n) q,λb u q n _ _=>⟨u.slots,F b u (J n) q⟩,λb u q n _=>?_,λb u q _=>?_,λb xs q=>h q,λb u xs q=>h q,λb ps q=>⟨#[],by simpa using h q⟩⟩ λa u e=>?_
 ·have f:=Heap.lt_size q
  rw[Zn (Nat.ne_of_lt (Nat.lt_of_lt_of_le f hsz)),Zn (Nat.ne_of_lt (Nat.lt_of_lt_of_le f i))]
  exact n
 ·by_cases f:b=P
  ·subst f
   exact⟨_,Heap.get?_push_of_some _ p⟩
  ·exact⟨u,F b u f q⟩
 ·by_cases A:a=h'.objs.size
  ·subst A
   rw[ZF] at e
   cases e
   exact⟨Heap.get?_push_size _ w,fo,Heap.get?_push_size _ w⟩
  ·rw[Zn A] at e
   by_cases B:a=c
   ·subst B
    rw[ZF] at e
    cases e
    exact⟨Heap.get?_push_of_some _ x,co,Heap.get?_push_of_some _ x⟩
   ·rw[Zn B] at e
    by_cases C:a=P
    ·subst C
     rw[E] at e
     cases e
     refine⟨_,Heap.get?_push_of_some _ p,?_,λg cv z=>?_⟩
     ·have:=TriplesOk_snoc pos.line pos.col (.ref c) ps.toList K
      simpa using this
     ·have L:codeAmong g (ps.toList++[rawInt pos.line,rawInt pos.col,.ref c])=some cv:=by simpa using z
      rcases HI ps.toList K L with z|⟨e1,e2,e3⟩
      ·obtain⟨Z,R,Q,O,N⟩:=y g cv z
       exact⟨Z,R,Q,h O,N⟩
      ·refine⟨c,co,e3,?_,?_⟩
       ·rw[Zn G,ZF]
       ·rw[e1,e2];exact T
    ·refine (I.hok a u e).stay (λb M f z=>F b M ?_ z) (λb z=>h z) (λb xs z=>h z) λb o z=>h z
     rcases f with r|r
     ·rw[r];exact C
     ·exact λz=>by rw[z,E] at r;cases r
theorem Xp{P:Addr}(hN:X.N.Nodup)(hi:X.N[i]?=some name)(hx:Loc X.env.scope name)(U:params.defaults=[])(R:params.kw_defaults=[])
  (ha:annTrees params none X.env=[]) (hq:qualnameIn X.env name name=qual) (g:X.env.code=.ref c0) (hC:PySem.W.codeHdIn X.K c0 P=true) (T:∀ y∈scope.names,y.2=.free->X.env.scope.names.lookup y.1=some .cell\/X.env.scope.names.lookup y.1=some .free)
  (hB:X.base.BuiltinsAt X.mg mainGlobals) (hf:X.fn name=true\/X.env.scope.names.lookup name=some .local:=by first|exact .inl rfl|exact .inr rfl|assumption) :
  PS X (.FunctionDef name params body [] none [] scope none name pos) (tDef X name qual params body scope P pos i):=by
 intro B s σ H D I ⟨q,hP,hqp,h⟩
 refine PySem.W.nestDef_K U R ha ?_
 rw[hq]
 obtain⟨cl,G,p,F⟩:=PL (scope:=scope) (env:=X.env) λy hy e=>I.ok.has y.1 (T y hy e)
 have C:Clos X scope cl:=⟨p,F,λx y c Y L=>I.ok.inj x y c (p x c Y) (p y c L)⟩
 obtain⟨ps,A,Q,m⟩:=I.hok P _ hP
 have hG:s.heap.Ns mainGlobals X.mg:=I.mod.glob.keeps I.bk
 have J:=PySem.W.codeHd_of_K I.kIn hC
 obtain⟨bm,ob,b1,b2,b3,_,b5,b6,b7,b8⟩:=hB
 have nP:∀ {b:Addr} {o:Obj},X.base.get? b=some o->b≠P:=λ{b o} e z=>by
  have:=(I.bs b o e).2
  rw[z,hP] at this;cases this
 have K:s.heap.BuiltinsAt X.mg P:=⟨bm,ob,b1,b2,b3,nP b5,I.bk bm ob b5,b6,b7,b8⟩
 have S:mainGlobals≠P:=by
  obtain⟨o,es,ep,e,_⟩:=I.mod.glob
  exact nP e
 cases hca:codeAmong pos ps.toList with
 | none =>
  refine PySem.W.makeFunction_K G I.ok.glob hG g J A Q hca S K λc' f a h' M N r n E O=>?_
  obtain⟨c2,co,vs,t,ec,Y,L,e3⟩:=E
  cases ec
  have I1:=I.fnMade (t':=M) (fo:=PySem.W.fnMade name qual params body scope cl a ((X.mg "__name__").getD .none) c' f) hP A Q m N r n Y (hqp▸⟨vs,t,L,e3⟩) O rfl
  refine V7 (v:=.ref h'.objs.size) I1 hN hi hx rfl (λs' Z _=>?_) hf
  refine⟨_,_,Z,h cl _ _ C ⟨c',co,a,_,f,⟨vs,t,L,e3⟩,.inl (I.hok.fresh r),Nat.ne_of_lt n,I.hok.fresh (Nat.le_trans r (Nat.le_of_lt n)),rfl⟩⟩
 | some cv =>
  obtain⟨c,co,rfl,j,W⟩:=m pos cv hca
  refine PySem.W.makeFunction_hit G I.ok.glob hG g J A Q hca K λf a h' M hk hsz=>?_
  have w:H h'.objs.size=none:=I.hok.fresh hsz
  have I1:Inv X B σ (upd H h'.objs.size (.frz (PySem.W.fnMade name qual params body scope cl a ((X.mg "__name__").getD .none) c f) (.own h'.objs.size))) { s with heap:=h'.push (PySem.W.fnMade name qual params body scope cl a ((X.mg "__name__").getD .none) c f),toks:=M }:=by
   refine I.born w (Heap.get?_none_of_le hsz) (λb u e=>Heap.get?_push_of_some _ (hk b u e)) ⟨Heap.get?_push_size _ rfl,_,Heap.get?_push_size _ rfl⟩
  refine V7 (v:=.ref h'.objs.size) I1 hN hi hx rfl (λs' Z _=>?_) hf
  refine⟨_,_,Z,h cl _ _ C ⟨c,co,a,(X.mg "__name__").getD .none,f,hqp▸W,.inr j,(λz=>by rw[z,w] at j;cases j),w,?_⟩⟩
  rw[HJ j]
def XX(qual:Str)(scope:Scope)(cl:List (Str×Addr))(L f:Addr)(cd:Value):Env :=
 { scope:=scope,locals:=L,globals:=mainGlobals,cells:=cellsFrom (L+1) scope.names cl,qual:=qual ++ ".<locals>.",func:=some f,code:=cd,frame:=some L,builtins:=builtinsNs }
theorem HK{cl:List (Str×Addr)}{a:List (Str×Value)}{f:Addr}{Q:Env->Shared->Prop}
  (h:wpAny M A (forIn a PUnit.unit λ(x:Str×Value) _=>do storeName (XX qual scope cl s.heap.objs.size f cd) x.1 x.2;pure (ForInStep.yield PUnit.unit)) (λ_ s'=>Q (XX qual scope cl s.heap.objs.size f cd) s') E
   { s with heap:=pushCells (s.heap.push { cls:=.type "frame",data:=.dict #[] }) scope.names }) :
  wpAny M A (newFunctionEnv scope mainGlobals cl a (qual ++ ".<locals>.") (some f) cd none builtinsNs) Q E s:=by
 simp only[newFunctionEnv,Option.isSome_none,Bool.false_eq_true,if_false]
 refine wpAny_bind (wpAny_alloc ?_)
 refine wpAny_bind (wpAny_layCells _ (λname kind cells=>by cases hkc:kind == NameKind.cell<;>simp[hkc]) _ _ _ _ ?_)
 rw[show ({ s with heap:=s.heap.push { cls:=.type "frame",data:=.dict #[] } }:Shared).heap.objs.size=s.heap.objs.size+1 from Heap.size_push ..]
 exact wpAny_bind (thn h λ_ s' q=>wpAny_pure q)
def cxF(CX:CXT)(P:Program)(w:World)(K:W.Frag)(mg:Str->Option Value)(base:Heap)(N:List Str)(qual:Str)(scope:Scope)(cl:List (Str×Addr))(f:Addr)(cd:Value)(A:Around)(outer:List Env)(s:Shared)(H:Hp)(E:XK):Cx where
 prog:=P
 w:=w
 K:=K
 mg:=mg
 base:=base
 A:=A.deeper (XX qual scope cl s.heap.objs.size f cd)
 N:=N
 s₀:=s
 H₀:=H
 env:=XX qual scope cl s.heap.objs.size f cd
 outer:=outer
 stack:=XX qual scope cl s.heap.objs.size f cd::outer
 ex:=[]
 calm:=true
 fn:=λx=>scope.names.lookup x == some .cell
 pn:=[]
 xe:=λe s'=>wpAny (model P w) (A.deeper (XX qual scope cl s.heap.objs.size f cd)) (leaving (XX qual scope cl s.heap.objs.size f cd) e) (λ_ s''=>CX outer H s E e s'') (λe' s''=>CX outer H s E e' s'') s'
structure FnScopeF(N ps:List Str)(sc:Scope):Prop where
 kind:sc.kind=.function
 co:sc.isCoroutine=false
 gen:sc.isGenerator=false
 nd:N.Nodup
 pre:N.take ps.length=ps
 par:∀ x∈ps,sc.names.lookup x=some .local\/sc.names.lookup x=some .cell
def OH(N:List Str)(scope:Scope)(cl:List (Str×Addr))(h:Heap)(σ:St):Prop :=
 σ.length=N.length/\∀ (i:Nat) (x:Str) (v:V),N[i]?=some x->σ[i]?=some (some v)->scope.names.lookup x=some .free/\(∀ y∈scope.names,y.1=x->y.2≠.cell)/\∃ c o u,cl.lookup x=some c/\h.get? c=some o/\o.data=.cell (some u)/\Zo v u
variable{Pt:Addr}
section
variable{cl:List (Str×Addr)}{f:Addr}{E:XK}
theorem HL(S:FnScopeF N ps scope)(hd:A.handled=none)(a:Env0 P w K mg base A outer s H)(G:∀ x,(x,NameKind.free)∈scope.names->∃ c,cl.lookup x=some c)(n:∀ x y c,cl.lookup x=some c->cl.lookup y=some c->x=y)
  (m:∀ x c,cl.lookup x=some c->H c=none/\∃ v,s.heap.IsCell c v) (F:OH N scope cl s.heap σ) :
  Inv (cxF CX P w K mg base N qual scope cl f cd A outer s H E) [] σ H { s with heap:=pushCells (s.heap.push { cls:=.type "frame",data:=.dict #[] }) scope.names }:=by
 have Y:(s.heap.push { cls:=.type "frame",data:=.dict #[] }).objs.size=s.heap.objs.size+1:=Heap.size_push ..
 have C:∀ b o,s.heap.get? b=some o->(pushCells (s.heap.push { cls:=.type "frame",data:=.dict #[] }) scope.names).get? b=some o :=
  λb o e=>pushCells_keeps _ _ b o (Heap.get?_push_of_some _ e)
 have Q:(pushCells (s.heap.push { cls:=.type "frame",data:=.dict #[] }) scope.names).Ns s.heap.objs.size λ_=>none :=
  (Heap.Ns.new s.heap (.type "frame")).keeps (pushCells_keeps scope.names _)
 have B:∀ x c,cl.lookup x=some c->c<s.heap.objs.size:=λx c e=>by
  obtain⟨_,v,q⟩:=m x c e
  exact q.lt
 have cells:∀ x c,(cellsFrom (s.heap.objs.size+1) scope.names cl).lookup x=some c->s.heap.objs.size+1<=c\/cl.lookup x=some c:=λx c e=>UY x _ _ _ c e
 have g:∀ b:Addr,b∉(cxF CX P w K mg base N qual scope cl f cd A outer s H E).ex:=λb z=>absurd (show b∈([]:List Addr) from z) (by simp)
 refine⟨⟨a.mod,S.kind,rfl,rfl,Nat.le_refl _,?_,?_,?_,λ_=>hd,Around.frames_deeper a.frames,.inr ⟨rfl,rfl⟩,λb z=>absurd z (g b),a.bs,a.bsz,λb _ _=>g b,λb z=>absurd z (g b),a.funs,a.frf⟩,
  rfl,a.bare,Un.kept C,?_,?_,a.hok.fresh (Nat.le_refl _),?_,λp T=>absurd (show p∈([]:List (Addr×Obj)) from T) (by simp),a.hok.kept C,F.1⟩
 ·exact UV scope.names _ cl n λx c h=>Nat.lt_succ_of_lt (B x c h)
 ·intro x j
  have j:scope.names.lookup x=some .cell\/scope.names.lookup x=some .free:=j
  refine Option.isSome_iff_exists.mp (PySem.W.cellsFrom_some scope.names _ cl ?_)
  rcases j with h|h
  ·exact .inl h
  ·exact .inr (Option.isSome_iff_exists.mpr (G x (PySem.mem_of_lookup h)))
 ·intro x c j U
  have j:scope.names.lookup x=some .cell:=by simpa [cxF] using j
  have:=UW x (s.heap.objs.size+1) scope.names (s.heap.objs.size+1) cl (Nat.le_refl _) (.inl (PySem.mem_of_lookup j)) c U
  exact Nat.le_trans (Nat.le_succ _) this
 ·refine⟨_,Q,λi x v X W Z=>?_⟩
  obtain⟨O,M,c,o,u,L,J,I,r⟩:=F.2 i x v X W
  refine⟨u,r,.inr ⟨.inr O,c,?_,o,C c o J,I⟩⟩
  show (cellsFrom (s.heap.objs.size+1) scope.names cl).lookup x=some c
  rw[UX _ _ _ M]
  exact L
 ·intro x c e
  have e:(cellsFrom (s.heap.objs.size+1) scope.names cl).lookup x=some c:=e
  rw[<- Y] at e
  exact UZ scope.names _ cl (λy d R=>by
   obtain⟨_,v,q⟩:=m y d R
   exact⟨v,q.keeps λb o z=>Heap.get?_push_of_some _ z⟩) x c e
 ·intro x c e
  rcases cells x c e with q|q
  ·exact a.hok.fresh (Nat.le_trans (Nat.le_succ _) q)
  ·exact (m x c q).1
def setAll:Nat->List V->St->St
 | _,[],σ=>σ
 | j,v::vs,σ=>setAll (j+1) vs (σ.set j (some v))
theorem OI{X:Cx}{M:Model}{A:Around}{E:Value->Shared->Prop}(a:X.N.Nodup):∀ (ps:List Str) (us:List Value) (vs:List V) (j:Nat) (σ:St) (H:Hp) (s:Shared) (Q:PUnit->Shared->Prop),Zm vs us->ps.length=us.length ->
  (∀ i x,ps[i]?=some x->X.N[j+i]?=some x/\Loc X.env.scope x/\(X.fn x=true\/X.env.scope.names.lookup x=some .local))->Inv X [] σ H s->(∀ s',Inv X [] (setAll j vs σ) H s'->Q ⟨⟩ s') ->
  wpAny M A (forIn (ps.zip us) PUnit.unit λ(x:Str×Value) _=>do storeName X.env x.1 x.2;pure (ForInStep.yield PUnit.unit)) Q E s
 | [],us,vs,j,σ,H,s,Q,r,hl,hp,I,h=>by
  cases us with
  | nil =>
   cases r
   rw[List.zip_nil_left,forIn_nil]
   exact wpAny_pure (h s I)
  | cons _ _=>simp at hl
 | x::ps,us,vs,j,σ,H,s,Q,r,hl,hp,I,h=>by
  cases r with
  | nil=>simp at hl
  | cons r rs =>
   rw[List.zip_cons_cons,forIn_cons]
   obtain⟨f,e,c⟩:=hp 0 x rfl
   refine wpAny_bind (wpAny_bind (V7 I a f e r (λs' g _=>wpAny_pure ?_) c))
   exact OI a ps _ _ (j+1) _ H s' Q rs (by simpa using hl) (λi y b=>by
    have:=hp (i+1) y (by simpa using b)
    rwa [show j+(i+1)=j+1+i by omega] at this) g h
def ZW(cl:List (Str×Addr))(b:Addr):Prop:=∃ x,cl.lookup x=some b
theorem HM{k:Nat}{W:Value}{c:Addr}(S:FnScopeF N ps scope)
  (hf:G f=some (.frz (PySem.W.fnMade name qual params body scope cl doc pm c W) (.own f))) (hc:G c=some (.frz co (.own Pt))) (hco:Vm co qual)
  (hfr:∀ x,(x,NameKind.free)∈scope.names->∃ c,cl.lookup x=some c) (O:∀ x y c,cl.lookup x=some c->cl.lookup y=some c->x=y)
  (T:∀ x d,cl.lookup x=some d->∃ o v,G d=some (.frz o (.own d))/\o.data=.cell v)
  (C:∀ (s:Shared) (us:List Value),us.length=ps.length->BindsTo s (PySem.W.fnX name qual params body scope cl .none .none doc pm none (.ref c) W) ⟨us,[]⟩ (ps.zip us))
  (len:∀ vs H Q E,sp vs H Q E->vs.length=ps.length)
  (hσ:∀ h:Heap,(∀ x d o,cl.lookup x=some d->G d=some (.frz o (.own d))->h.get? d=some o)->OH N scope cl h σ)
  (B:∀ (A:Around) (outer:List Env) (s:Shared) (H:Hp) (vs:List V) (Q:VK) (E:XK),Room k (A.deeper (XX qual scope cl s.heap.objs.size f (.ref c)))->Zf G H->sp vs H Q E ->
   ∃ t,PSs (cxF CX P w K mg base N qual scope cl f (.ref c) A outer s (unl (ZW cl) H) E).nox body t/\t { nx:=λ_ H'=>(∀ b,ZW cl b->H' b=none)->Q .non (rel (ZW cl) H H'),rt:=λv H'=>(∀ b,ZW cl b->H' b=none)->Q v (rel (ZW cl) H H') } (setAll 0 vs σ) (unl (ZW cl) H)) :
  CloOk P w K mg base CX (k+1) sp (.ref f) G:=by
 refine⟨⟨f,_,_,rfl,hf,rfl⟩,λf' ef A outer s H us vs Q E hr a m r L=>?_⟩
 cases ef
 have hl:=len _ _ _ _ L
 have M:us.length=ps.length:=by rw[<- r.length];exact hl
 have hfo:=(a.hok f _ (m _ _ hf)).1
 have R:=(a.hok c _ (m _ _ hc)).1
 obtain⟨ws,t,d1,d2⟩:=hco
 have U:∀ b,ZW cl b->∃ o,H b=some (.frz o (.own b)):=λb ⟨x,e⟩=>by
  obtain⟨o,v,z,_⟩:=T x b e
  exact⟨o,m _ _ z⟩
 have j:∀ b,ZW cl b->b∉frs outer/\b∉([]:List Addr):=λb n=>by
  refine⟨λz=>?_,by simp⟩
  obtain⟨o,e⟩:=U b n
  rw[a.frf b z] at e;cases e
 have e1:Env0 P w K mg base A outer s (unl (ZW cl) H):=by
  refine⟨a.frames,a.mod,λb o q=>⟨(a.bs b o q).1,?_⟩,a.bsz,a.funs,λb n=>?_,HC U a.hok,a.bare⟩
  ·by_cases n:ZW cl b
   ·exact W7 n
   ·rw[Ya n];exact (a.bs b o q).2
  ·rw[Ya λz=>(j b z).1 n];exact a.frf b n
 have lim:s.heap.NoLimit:=a.mod.nolimit.keeps λb o e=>(a.bs b o e).1
 refine codeAny_call_function hr.depth hfo rfl S.co S.gen rfl ⟨c,co,ws,t,rfl,R,d1,d2⟩ (C s us M _ _ _ _ ?_)
 refine HK (f:=f) (cd:=.ref c) ?_
 obtain⟨t,ht,hq⟩:=B A outer s H vs Q E (hr.deeper _) m L
 have I0:Inv (cxF CX P w K mg base N qual scope cl f (.ref c) A outer s (unl (ZW cl) H) E) [] σ (unl (ZW cl) H) { s with heap:=pushCells (s.heap.push { cls:=.type "frame",data:=.dict #[] }) scope.names } :=
  HL S hr.hd e1 hfr O (λx d e=>⟨W7 ⟨x,e⟩,by
   obtain⟨o,v,z,y⟩:=T x d e
   exact⟨v,o,(a.hok d _ (m _ _ z)).1,y⟩⟩) (hσ s.heap λx d o e z=>(a.hok d _ (m _ _ z)).1)
 refine OI (X:=cxF CX P w K mg base N qual scope cl f (.ref c) A outer s (unl (ZW cl) H) E) S.nd ps us vs 0 σ _ _ _ r M.symm (λi x Y=>?_) I0 λs1 I=>?_
 ·have F:=List.mem_of_getElem? Y
  refine⟨?_,S.par x F,?_⟩
  ·rw[Nat.zero_add]
   have hi:i<ps.length:=(List.getElem?_eq_some_iff.mp Y).1
   rw[<- S.pre,List.getElem?_take_of_lt hi] at Y
   exact Y
  ·rcases S.par x F with z|z
   ·exact .inr z
   ·refine .inl ?_
    show (scope.names.lookup x == some NameKind.cell)=true
    rw[z];rfl
 ·refine⟨I.nolimit,codeAny_func ?_⟩
  refine wpAny_mono (ht [] s1 _ _ _ (I.wish _) hq) (λfl Z p=>?_) λe Z p=>?_
  ·replace p:=SP.unwish p
   have fin:∀ {g:St} {H':Hp} {v:V} {u:Value},Inv (cxF CX P w K mg base N qual scope cl f (.ref c) A outer s (unl (ZW cl) H) E) [] g H' Z->Zo v u->((∀ b,ZW cl b->H' b=none)->Q v (rel (ZW cl) H H'))->CE outer P w H s Q u Z :=
    λ{g H' v u} J rv q=>⟨v,rel (ZW cl) H H',J.os,J.bare,HD U a.hok J.base j,HE U a.hok J.base j J.hok,rv,q λb n=>OE U a.hok J.base j n⟩
   cases fl with
   | ret u =>
    obtain⟨v,g,H',J,rv,q⟩:=p
    exact fin J rv q
   | next =>
    obtain⟨g,H',J,q⟩:=p
    exact fin (v:=V.non) (u:=Value.none) J rfl q
   | brk =>
    obtain⟨_,_,_,q⟩:=p
    exact False.elim q
   | cont =>
    obtain⟨_,_,_,q⟩:=p
    exact False.elim q
  ·exact False.elim p
end
def Va(X:Cx)(name qual:Str)(params:Arguments)(body:List Stmt)(scope:Scope)(P:Addr)(v:V)(G:Hp):Prop :=
 ∃ (f c:Addr) (co:Obj) (doc pm ctv:Value) (cl:List (Str×Addr)),v=.ref f/\Clos X scope cl/\Vm co qual/\G c=some (.frz co (.own P))/\G f=some (.frz (PySem.W.fnMade name qual params body scope cl doc pm c ctv) (.own f))
theorem Va.same{P:Addr}(m:Zf G G')(h:Va X name qual params body scope P v G):Va X name qual params body scope P v G':=by
 obtain⟨f,c,co,a,g,b,cl,e,p,n,j,i⟩:=h
 exact⟨f,c,co,a,g,b,cl,e,p,n,m _ _ j,m _ _ i⟩
variable [Tabs]{Y:Cx}
section
variable{E:FK}{X:Exc->Sl->Prop}{Q:TV->Prop}{bk:Sl->Prop}
theorem Xq{P:Addr}{q:Nat->Nat->Str}(T:(P,q)∈Tabs.ts)(R:q pos.line pos.col=qual)(hi:i<ρ.length)
  (h:nx (ρ.set i (some (.obj (Va Y name qual params body scope P))))):Sv K E X (tDef Y name qual params body scope P pos i) ρ ⟨nx,rt,bk,ct⟩:=λH0 Z ts as H D st s x f=>by
 refine⟨q,s.same _ _ (x.t _ T),R,λcl F I C m=>f.nx _ h _ _ ?_⟩
 have L:=s.ext m.same
 have w:Va Y name qual params body scope P (.ref F) I:=by
  obtain⟨c,co,g,r,j,n,B,A,J,rfl⟩:=m
  exact⟨F,c,co,g,r,j,cl,rfl,C,n,by rw[Zn A,ZF],ZF⟩
 refine SR.store (v:=.ref F) (a:=.obj (Va Y name qual params body scope P)) ?_ hi
 obtain⟨⟨p,q,n,B,A,J⟩,e⟩:=L
 refine⟨⟨p,q,n,.cons (.av (.obj (p:=λ_=>0) ?_ (λG1 G2 w S=>S.same w) λ_=>rfl)) B (λb=>by simp),A,J⟩,e⟩
 obtain⟨U,c,co,g,r,j,G,W,Q,O,N,M⟩:=w
 have nm:∀ {b:Addr} {u:Obj} {y:HO},I b=some (.frz u y)->L2.hid I p q b=some (.frz u y):=λ{b u y} z=>IP (SR.lsts n B) z λz=>(show False from z)
 exact⟨U,c,co,g,r,j,G,W,Q,O,nm N,nm M⟩
theorem RH{k:Nat}{A:TA}(hi:ρ[i]?=some (some (.obj (CloOk P w K mg base CX k (spR K Pre Post NP)))))
  (h:Ea K E X A ρ (ClR Pre Post NP [] Q λ_=>True)):Ev K E X (RE P w K mg base CX k i E' A) ρ Q:=λF n ts as H I s x u=>by
 obtain⟨v,m,B,_⟩:=s.atO hi
 refine⟨v,_,m,B,h F n ts as H _ s x λbs ⟨cs,sh,pre,q,_⟩ vs H' s' hl=>?_⟩
 obtain⟨G,b,f,_⟩:=s'.atO hi
 rw[m] at b
 cases b
 obtain⟨p,j⟩:=SR.lent sh hl s'
 exact⟨f,x.t.same j.same,cs,by simpa using p,by simpa using pre,λc y v C r=>let ⟨a,g,z⟩:=q c (by simpa using y);u a z v C (j.gotG r g),λe z=>z.elim⟩
end
def Tw:Nat->List AV->Sl->Sl
 | _,[],ρ=>ρ
 | j,c::cs,ρ=>Tw (j+1) cs (ρ.set j (some c))
theorem RSl.set0:∀ {σ:L2.St} {ρ:Sl} {p:Fp} {j:Nat} {v:V} {a:AV},RSl K G H σ ρ p->(∀ b,p b=0)->RA K G H v a Z0->j<ρ.length->RSl K G H (σ.set j (some v)) (ρ.set j (some a)) Z0
 | _,_,_,_,_,_,.nil _,_,_,hj=>by simp at hj
 | _,_,_,0,_,_,.no rs,z,ra,_=>.so ra rs λb=>by simp[Z0,z b]
 | _,_,_,j+1,_,_,.no rs,z,ra,hj=>.no (RSl.set0 rs z ra (by simpa using hj))
 | _,_,_,0,_,_,.so (q:=q) r rs e,z,ra,_=>.so ra rs λb=>by have:=e b;have:=z b;simp only[Z0];omega
 | _,_,_,j+1,_,_,.so (p:=p) (q:=q) r rs e,z,ra,hj=>.so r (RSl.set0 rs (λb=>by have:=e b;have:=z b;omega) ra (by simpa using hj)) λb=>by have:=e b;have:=z b;simp only[Z0];omega
theorem RSl.setAll:∀ {vs:List V} {cs:List AV} {j:Nat} {σ:L2.St} {ρ:Sl},RAs K G H vs cs Z0->j+vs.length<=ρ.length->RSl K G H σ ρ Z0->RSl K G H (L2.setAll j vs σ) (Tw j cs ρ) Z0:=by
 intro vs
 induction vs with
 | nil =>
  intro cs j σ ρ r _ s
  cases r
  exact s
 | cons v vs i =>
  intro cs j σ ρ r m s
  cases r with
  | @cons _ c _ n h g _ r rs e =>
   have f:h=Z0:=by funext b;have:=e b;simp only[Z0] at this ⊢;omega
   have a:g=Z0:=by funext b;have:=e b;simp only[Z0] at this ⊢;omega
   subst f a
   simp only[length_cons] at m
   exact i rs (by rw[List.length_set];omega) (RSl.set0 s (λ_=>rfl) r (by omega))
theorem SR.startF{σ:L2.St}(r:RAs K H H vs cs Z0)(hl:vs.length<=ρ.length)(s:RSl K H H σ ρ Z0):SR K H (L2.setAll 0 vs σ) (Tw 0 cs ρ) [] [] H:=by
 have a:L2.hid H (λ_=>0) (λ_=>0)=H:=by funext b;simp[L2.hid]
 refine⟨⟨Z0,λ_=>0,?_,.nil λ_=>rfl,λ_=>by simp[Z0],λb z=>by simp[Z0] at z⟩,.refl H⟩
 show RSl K (L2.hid H (λ_=>0) (λ_=>0)) H _ _ _
 rw[a]
 exact RSl.setAll r (by omega) s
mutual
def AV.plain:AV->Bool
 | .d _=>true
 | .own xs=>AV.plains xs
 | .tup xs=>AV.plains xs
 | .dic _=>true
 | .obj _=>false
def AV.plains:List AV->Bool
 | []=>true
 | x::xs=>x.plain && AV.plains xs
end
theorem Yi.low{o:HO}{kvs:List (PyData×PyData)}(h:Yi K G o kvs)(m:Low G G'):Yi K G' o kvs:=by
 rcases h with⟨ks,ds,e,r,z⟩|⟨ks,ds,e,r,z⟩|⟨ks,ds,n,e,r,z⟩
 ·exact .inl ⟨ks,ds,e,Reps.low m r,z⟩
 ·exact .inr (.inl ⟨ks,ds,e,Reps.low m r,z⟩)
 ·exact .inr (.inr ⟨ks,ds,n,e,Reps.low m r,z⟩)
theorem RA.lowB(g:Low G G'):(∀ {v:V} {a:AV} {p:Fp},RA K G H v a p->a.plain=true->(∀ b o,0<p b->H b=some o->H' b=some o)->RA K G' H' v a p)/\∀ {vs:List V} {xs:List AV} {p:Fp},RAs K G H vs xs p->AV.plains xs=true->(∀ b o,0<p b->H b=some o->H' b=some o)->RAs K G' H' vs xs p :=
 RA.ind (M:=λv a p=>a.plain=true->(∀ b o,0<p b->H b=some o->H' b=some o)->RA K G' H' v a p) (N:=λvs xs p=>AV.plains xs=true->(∀ b o,0<p b->H b=some o->H' b=some o)->RAs K G' H' vs xs p) (λr e _ _=>.d (Rep.low g r) e) (λ{a _ _ _ _} h i e c f=>.own (f a _ (by have:=e a;simp at this;omega) h) (i (by simpa [AV.plain] using c) λb o z=>f b o (by have:=e b;omega)) e)
  (λh i c f=>.tup (g _ _ h (by intro _ _ z;cases z)) (i (by simpa [AV.plain] using c) f)) (λ{a _ _ _} h d e _ f=>.dic (f a _ (by have:=e a;simp at this;omega) h) (d.low g) e) (λ_ _ _ c=>by simp[AV.plain] at c) (λe _ _=>.nil e) λi j e c f=>by
   simp only[AV.plains,Bool.and_eq_true] at c
   exact .cons (i c.1 λb o z=>f b o (by have:=e b;omega)) (j c.2 λb o z=>f b o (by have:=e b;omega)) e
theorem RA.low(f:Low G G'){a:AV}(c:a.plain=true)(e:∀ b o,0<p b->H b=some o->H' b=some o)(h:RA K G H v a p):RA K G' H' v a p:=(RA.lowB f).1 h c e
theorem RAs.low(e:Low G G')(a:AV.plains xs=true)(c:∀ b o,0<p b->H b=some o->H' b=some o)(h:RAs K G H vs xs p):RAs K G' H' vs xs p:=(RA.lowB e).2 h a c
theorem RA.there{a:AV}(h:RA K G H v a p):∀ b,0<p b->∃ o,H b=some o/\Mu o:=RA.lstB.1 h
theorem Rs.rel{C:Addr->Prop}{v:V}{c:AV}(n:∀ b,C b->∃ o,H b=some (.frz o (.own b)))(a:∀ b,C b->H' b=none)(r:Rs K (unl C H) H' v c):Rs K H (rel C H H') v c:=by
 obtain⟨i,p,m,j,h⟩:=r
 have g:∀ b o,H' b=some o->L2.rel C H H' b=some o:=λb o e=>by
  rw[Wr λz=>by rw[a b z] at e;cases e];exact e
 refine⟨λb o e=>?_,p,m,λb z=>?_,h.mono (λb o e=>?_) λb o _ e=>g b o e⟩
 ·by_cases f:C b
  ·rw[Ts f];exact e
  ·rw[Wr f];exact i b o (by rw[Ya f];exact e)
 ·obtain⟨o,e,_⟩:=h.there b z
  have f:¬ C b:=λy=>by rw[a b y] at e;cases e
  have:=j b z
  rw[Ya f] at this
  exact this
 ·unfold L2.hid at e ⊢
  split at e
  ·rename_i y;rw[if_pos y];exact g b o e
  ·cases e
theorem Rs.unl{C:Addr->Prop}{H1:Hp}{v:V}{c:AV}(s:c.plain=true)(j:∀ b,C b->H1 b=none/\∃ o v,H b=some (.frz o (.own b))/\o.data=.cell v)(m:Zf H1 H)(r:Rs K H H' v c):Rs K H1 (unl C H') v c:=by
 obtain⟨f,p,x,w,g⟩:=r
 have a:∀ b,C b->∃ o,H' b=some (.frz o (.own b)):=λb z=>by
  obtain⟨_,o,_,e,_⟩:=j b z
  exact⟨o,f _ _ e⟩
 have i:Low H' (L2.unl C H'):=λb o e n=>Tu a e λh z=>n h b z
 refine⟨λb o e=>?_,p,x,λb z=>?_,RA.low (λb o e n=>?_) s (λb o z e=>?_) g⟩
 ·have u:¬ C b:=λz=>by rw[(j b z).1] at e;cases e
  rw[Ya u]
  exact f b o (m b o e)
 ·have:=w b z
  cases e:H1 b with
  | none=>rfl
  | some o=>rw[m b o e] at this;cases this
 ·unfold L2.hid at e ⊢
  split at e
  ·rename_i y;rw[if_pos y];exact i b o e n
  ·cases e
 ·obtain⟨A,q,mu⟩:=g.there b z
  rw[e] at q
  cases q
  refine i b o e λh c z=>?_
  subst z
  exact (show False from mu)
section
variable{k:Nat}{cap:List (Option Nat)}{σ:L2.St}
theorem Xr(S:FnScopeF N ps scope)(F:Z4 Y.N Y.env.scope scope N cap=true)(hnf:∀ y∈Y.env.scope.names,y.2≠.free)(R:∀ x,Y.fn x=true)
  (M:∀ (cl:List (Str×Addr)) (doc pm O:Value) (c:Addr) (s:Shared) (us:List Value),us.length=ps.length->BindsTo s (PySem.W.fnX name qual params body scope cl .none .none doc pm none (.ref c) O) ⟨us,[]⟩ (ps.zip us))
  (I:∀ cs,Pre cs->cs.length=ps.length) (T:∀ cs,Pre cs->AV.plains cs=true)
  (hm:Va Y name qual params body scope Pt v H1) (L:Lent Y σ H1 H2) (s:SR Y.K H0 σ ρ ts as H1)
  (K:∀ (cl:List (Str×Addr)) (f c:Addr) (A:Around) (outer:List Env) (s:Shared) (H:Hp) (E:XK),Room k (A.deeper (XX qual scope cl s.heap.objs.size f (.ref c))) ->
   ∃ t,PSs (cxF CX Y.prog Y.w Y.K Y.mg Y.base N qual scope cl f (.ref c) A outer s H E).nox body t/\∀ cs,Pre cs->Sv Y.K (toF E) NE t (Tw 0 cs (ZC cap ρ)) (VO (Post cs))) :
  CloOk Y.prog Y.w Y.K Y.mg Y.base CX (k+1) (spR Y.K Pre Post NP) v H2:=by
 obtain⟨f,c,co,doc,pm,O,cl,rfl,C,hco,hc,hf⟩:=hm
 have own:∀ x d,cl.lookup x=some d->Own Y d:=λx d e=>⟨x,R x,C.le x d e⟩
 refine HM (σ:=Yf cap σ) (G:=H2) S (L.same _ _ hf) (L.same _ _ hc) hco C.has C.inj (λx d e=>(L.own d (own x d e)).2) (λs us hl=>M cl doc pm O c s us hl) (λvs H Q E h=>Ur h I) (λh hh=>?_) λA outer s' H vs Q E hr m hsp=>?_
 ·refine⟨by unfold Yf;rw[length_map,Ui F],λi x w h1 g=>?_⟩
  unfold Yf at g
  rw[getElem?_map] at g
  cases e:cap[i]? with
  | none=>rw[e] at g;cases g
  | some o =>
   rw[e] at g
   cases o with
   | none=>cases g
   | some j =>
    have g:(σ[j]?).join=some w:=Option.some.inj g
    obtain⟨q1,q2,q3,q4⟩:=U1 F h1 e
    have q5:σ[j]?=some (some w):=by
     cases es:σ[j]? with
     | none=>rw[es] at g;cases g
     | some w'=>rw[es] at g;cases w' with
      | none=>cases g
      | some W=>have:some W=some w:=g;rw[this]
    have q2':Y.env.scope.names.lookup x=some .cell:=by
     rcases q2 with z|z
     ·exact z
     ·exact absurd rfl (hnf _ (PySem.mem_of_lookup z))
    obtain⟨d,hd⟩:=C.has x (PySem.mem_of_lookup q3)
    obtain⟨o,u,r1,Z,r3⟩:=L.cell j x d w q1 (R x) q2' (C.le x d hd) q5
    exact⟨q3,q4,d,o,u,hd,hh x d o hd r1,Z,r3⟩
 ·obtain⟨t,h1,g⟩:=K cl f c A outer s' (unl (ZW cl) H) E hr
  refine⟨t,h1,?_⟩
  obtain⟨tb,cs,rp,pre,q,_⟩:=hsp
  have hC:∀ b,ZW cl b->∃ o,H b=some (.frz o (.own b)):=λb ⟨x,e⟩=>by
   obtain⟨_,o,_,z,_⟩:=L.own b (own x b e)
   exact⟨o,m _ _ z⟩
  have lo:Low H (unl (ZW cl) H):=λb o e n=>Tu hC e λob z=>n ob b z
  have sm:Zf H1 (unl (ZW cl) H):=λb o e=>by
   have hb:¬ ZW cl b:=λ⟨x,z⟩=>by rw[(L.own b (own x b z)).1] at e;cases e
   rw[Ya hb]
   exact m _ _ (L.same _ _ e)
  have r1:RAs Y.K (unl (ZW cl) H) (unl (ZW cl) H) vs cs Z0:=RAs.low lo (T cs pre) (λb o z=>by simp[Z0] at z) rp
  have Z:RSl Y.K (unl (ZW cl) H) (unl (ZW cl) H) (Yf cap σ) (ZC cap ρ) Z0:=RSl.cap s sm cap
  have hl:vs.length<=(ZC cap ρ).length:=by
   unfold ZC
   rw[length_map,Ui F,rp.len,I cs pre]
   have:=congrArg List.length S.pre
   rw[length_take] at this
   omega
  have X:XS (unl (ZW cl) H):=λp hp=>lo _ _ (tb p hp) λ_ _ z=>by cases z
  refine g cs pre _ _ [] [] _ _ Stb.nil (SR.startF r1 hl Z) (XOk.ne X) ⟨λρ z U H' B J=>?_,λ_ z=>z.elim,λ_ z=>z.elim,λa ⟨c,r,z⟩ v U ρ' H' B J=>?_⟩
  ·exact q _ z _ _ (Rs.rel hC J (SR.rs (v:=.non) (B.push λ_=>.non)))
  ·refine q _ z _ _ (Rs.rel hC J ?_)
   rcases r with rfl|⟨nr,rfl⟩
   ·exact B.rs
   ·refine⟨B.same,λ_=>0,λ_=>by simp,λb z=>by simp at z,.d ?_ λ_=>rfl⟩
    have P:L2.hid H' (λ_=>0) (λ_=>0)=H':=by funext b;simp[L2.hid]
    rw[P]
    exact B.top nr
end
variable [Tabs]
inductive ShL(K:W.Frag)(Y:Cx)(ρ:Sl):TV->AV->Prop
 | d {b:TV} {x:PyData}:NR b->b.data=x->ShL K Y ρ b (.d x)
 | o {φ ψ:V->Hp->Prop}:(∀ v G1 G2,Zf G1 G2->ψ v G1->ψ v G2)->(∀ (H0:Hp) (σ:L2.St) (ts:List V) (as:List TV) (H1 H2:Hp) (v:V),SR K H0 σ ρ ts as H1->Lent Y σ H1 H2->φ v H1->ψ v H2)->ShL K Y ρ (.av (.obj φ)) (.obj ψ)
inductive ShLs(K:W.Frag)(Y:Cx)(ρ:Sl):List TV->List AV->Prop
 | nil:ShLs K Y ρ [] []
 | cons {b:TV} {c:AV} {bs:List TV} {cs:List AV}:ShL K Y ρ b c->ShLs K Y ρ bs cs->ShLs K Y ρ (b::bs) (c::cs)
section
variable{σ:L2.St}
theorem SR.lentL(L:Lent Y σ H1 H2):∀ {vs:List V} {bs:List TV} {cs:List AV},ShLs K Y ρ bs cs->vs.length=bs.length->SR K H0 σ ρ (vs++ts) (bs++as) H1->RAs K H2 H2 vs cs Z0/\SR K H0 σ ρ ts as H1
 | [],_,_,.nil,_,s=>⟨.nil λ_=>rfl,s⟩
 | [],_,_,.cons _ _,e,_=>by simp at e
 | v::vs,_,_,.nil,e,_=>by simp at e
 | v::vs,b::bs,c::cs,.cons h t,e,s=>by
  have a:SR K H0 σ ρ (v::(vs++ts)) (b::(bs++as)) H1:=s
  obtain⟨r,f⟩:=SR.lentL L t (by simpa using e) a.pop
  refine⟨.cons (p:=Z0) (q:=Z0) ?_ r λ_=>rfl,f⟩
  cases h with
  | d i n=>exact .d (n▸(a.top i).same L.same) λ_=>rfl
  | o mono g =>
   refine .obj (g H0 σ ts as H1 H2 v f L ?_) (mono v) λ_=>rfl
   obtain⟨⟨p,q,y,j,x,w⟩,u⟩:=a
   cases j with
   | cons r rs e=>cases r with
    | av r=>cases r with
     | obj h m z=>exact m _ _ Ym h
end
section
variable{k:Nat}
def Us(K:W.Frag):Sp:=λvs H Q _=>XS H/\∃ (a:Addr) (ns:List Int),vs=[.ref a]/\SqL K H a (ns.map V.int)/\ns.length<=63/\(∀ x∈ns,Builtin.Int.intBits x<=2 ^ 20)/\∀ H',Zf H H'->Q (.bl true) H'
theorem HN{f:Addr}(F:FunD K x qual st dV f fd)(J:FnScope N ps (Zd st))(e:ps.length=1)
  (b:∀ (cdv:Value) (A:Around) (outer:List Env) (s:Shared) (H:Hp) (E:XK),Room k (A.deeper (envOfC qual (Zd st) s.heap.objs.size f cdv)) ->
   ∃ t,PSs (YM CX P w K mg base N qual (Zd st) f cdv A outer s H E).nox (Zv st) t/\∀ ns:List Int,ns.length<=63->(∀ x∈ns,Builtin.Int.intBits x<=2 ^ 20)->Sv K (toF E) NE t (ini N [dI ns]) (fin (.d (.bool true)))) :
  FnOk P w K mg base CX (k+1) f fd ps (Us K):=by
 refine F.ok (k:=k) J (λvs H Q E h=>?_) λcdv A outer s H vs Q E y h=>?_
 ·obtain⟨_,a,ns,rfl,_⟩:=h
  exact e.symm
 ·obtain⟨j,a,ns,rfl,C,g,i,q⟩:=h
  obtain⟨t,I,G⟩:=b cdv A outer s H E y
  refine⟨t,I,Oq (E:=E) (S:=λds c=>∃ ns:List Int,ds=[dI ns]/\(ns.length<=63/\∀ x∈ns,Builtin.Int.intBits x<=2 ^ 20)/\c=.d (.bool true)) ⟨j,[dI ns],.cons (.ints C) .nil,.inl ⟨_,⟨ns,rfl,⟨g,i⟩,rfl⟩,λv L r=>?_⟩⟩ λds c B=>?_⟩
  ·obtain⟨m,p,_,_,u⟩:=r
   cases u with
   | d n _=>rw[Rep.bl_inv n];exact q _ m
  ·obtain⟨ns,rfl,⟨g,i⟩,rfl⟩:=B
   exact G ns g i
end
section
open PySem.Calls PySem.W
def H00(ts:List (Addr×(Nat->Nat->Str)))(sc:Option (Addr×HO)):Hp:=λb=>match ts.lookup b with
 | some q=>some (.tbq q)
 | none=>match sc with
  | some (a,o)=>if b=a then some o else none
  | none=>none
theorem HP{ts:List (Addr×(Nat->Nat->Str))}(nd:(ts.map Prod.fst).Nodup){p:Addr×(Nat->Nat->Str)}(h:p∈ts):ts.lookup p.1=some p.2:=by
 induction ts with
 | nil=>cases h
 | cons q r b =>
  rw[map_cons,nodup_cons] at nd
  rw[show (q::r)=((q.1,q.2)::r) from rfl,lookup_cons]
  rcases mem_cons.mp h with e|h
  ·subst e
   rw[beq_self_eq_true]
  ·have a:p.1≠q.1:=λz=>nd.1 (z▸List.mem_map_of_mem h)
   rw[beq_false_of_ne a]
   exact b nd.2 h
theorem VP{ts:List (Addr×(Nat->Nat->Str))}{q:Nat->Nat->Str}(h:ts.lookup b=some q):(b,q)∈ts:=by
 induction ts with
 | nil=>cases h
 | cons p r a =>
  rw[show (p::r)=((p.1,p.2)::r) from rfl,lookup_cons] at h
  cases e:b == p.1 with
  | true =>
   rw[e] at h
   cases h
   rw[beq_iff_eq.mp e]
   exact .head _
  | false=>rw[e] at h;exact .tail _ (a h)
theorem HQ{mb:Str->Option Value}{k:Nat}{fa:Addr}{s₁:Shared}{vs:List Value}{ts:List (Addr×(Nat->Nat->Str))}
  (nd:(ts.map Prod.fst).Nodup) (KX:K.In s₁.heap) (M:s₁.heap.Ns mainGlobals mg) (hb:s₁.heap.Ns builtinsNs mb) (Z:∀ x:Str,x ≠ "__name__" -> mb x=bootBuiltins x) (N:s₁.heap.NoLimit) (hg:s₁.gens=#[])
  (O:s₁.heap.get? a=some { cls:=.type "list",data:=.seq vs.toArray }) (hi:IntsAre vs ns) (hl:ns.length<=sizeLine) (hr:Room k callerA)
  (c:∀ p∈ts,s₁.heap.get? p.1=some (tabObj #[])/\K.lookup p.1=none/\isCodeTable s₁.heap p.1) (Y:s₁.heap.BuiltinsAt mg mainGlobals)
  (F:∀ base:Heap,K.In base->base.Ns mainGlobals mg->base.BuiltinsAt mg mainGlobals->FnOk P w K mg base CX k fa fd [x] sp) (B:∀ (s:Shared) (u:Value),BindsTo s fd ⟨[u],[]⟩ [(x,u)])
  (X:∀ H:Hp,(∀ p∈ts,H p.1=some (.tbq p.2))->SqL K H a (ns.map V.int)->sp [.ref a] H (λv H'=>v=.bl true/\Zf H H') λ_ _ _=>False)
  (hCX:∀ H e s',CX [] H s₁ (λ_ _ _=>False) e s'->False) :
  codeAny (model P w) callerA (.call (.ref fa) ⟨[.ref a],[]⟩) (λr s'=>r=.ok (.ret (.bool true))/\OldK s₁.heap s'.heap/\s'.os=s₁.os/\AllBare s'.gens) s₁:=by
 have rv:=Pz hi
 have J:=hi.length
 have j:∀ H:Hp,(∀ p∈ts,H p.1=some (.tbq p.2))->SqL K H a (ns.map V.int)->HOk P w H s₁.heap->(∀ b o,H b=some o->(∃ p∈ts,b=p.1)\/(b=a/\∃ ob u,o=.frz ob u))->(∀ b o,H b=some o->K.lookup b=none) ->
   codeAny (model P w) callerA (.call (.ref fa) ⟨[.ref a],[]⟩) (λr s'=>r=.ok (.ret (.bool true))/\OldK s₁.heap s'.heap/\s'.os=s₁.os/\AllBare s'.gens) s₁:=by
  intro H Q hS L hA hK
  have I:∀ {b:Addr} {o:Obj},s₁.heap.get? b=some o->(∀ vs n,o.data≠.seq vs n)->(∀ vs,o.data≠.fields vs)->H b=none:=λ{b o} e n1 n2=>by
   cases q:H b with
   | none=>rfl
   | some u =>
    rcases hA b u q with⟨p,g,rfl⟩|⟨rfl,_⟩
    ·rw[(c p g).1] at e
     cases e
     exact absurd rfl (n2 _)
    ·rw[O] at e
     cases e
     exact absurd rfl (n1 _ _)
  have f:∀ {b:Addr} {m:Str->Option Value},s₁.heap.Ns b m->(XL s₁.heap H).Ns b m:=λ{b m} ⟨o,es,ep,e,d,r⟩ =>
   ⟨o,es,ep,Ss e (I e (λ_ _ z=>by rw[d] at z;cases z) λ_ z=>by rw[d] at z;cases z),d,r⟩
  have R:K.In (XL s₁.heap H):=λb o e=>Ss (KX b o e) (by
   cases q:H b with
   | none=>rfl
   | some u=>rw[hK b u q] at e;cases e)
  have hM:Mod K mg (XL s₁.heap H):=⟨R,f M,⟨mb,f hb,Z⟩,let ⟨mc,h1,h2⟩:=N;⟨mc,f h1,h2⟩⟩
  have hB:(XL s₁.heap H).BuiltinsAt mg mainGlobals:=by
   obtain⟨bm,o,b1,b2,b3,b4,b5,b6,b7,b8⟩:=Y
   exact⟨bm,o,b1,b2,b3,b4,Ss b5 (I b5 (λ_ _ z=>by rw[b8] at z;cases z) λ_ z=>by rw[b8] at z;cases z),b6,b7,b8⟩
  have e0:Env0 P w K mg (XL s₁.heap H) callerA [] s₁ H:=⟨rfl,hM,λb o e=>LC e,Nat.le_of_eq (LB _ _),trivial,λb hb=>absurd (show b∈([]:List Addr) from hb) (by simp),L,.of_eq hg⟩
  refine codeAny_mono ((F _ R (f M) hB).run callerA [] s₁ H ⟨[.ref a],[]⟩ [.ref a] [.ref a] _ _ hr e0 (B s₁ (.ref a)) (.cons rfl .nil) (X H Q hS)) λr s' h=>?_
  cases r with
  | error e=>exact (hCX H e s' h).elim
  | ok fl =>
   cases fl with
   | next=>exact False.elim h
   | brk=>exact False.elim h
   | cont=>exact False.elim h
   | ret u =>
    obtain⟨v,H',os,S,un,i,r',q',sm⟩:=h
    subst q'
    obtain rfl:u=Value.bool true:=r'
    refine⟨rfl,⟨λb o e=>?_,λb o e=>un.there b o e (by simp)⟩,os,S⟩
    cases q:H b with
    | none=>exact .inl (un.keep b o e q (by intro z;exact absurd (show b∈([]:List Addr) from z) (by simp)) (by simp))
    | some u =>
     rcases hA b u q with⟨p,g,rfl⟩|⟨rfl,ob,y,rfl⟩
     ·obtain⟨T,_,e3⟩:=c p g
      rw[T] at e
      cases e
      obtain⟨ps,e4,_⟩:=i p.1 _ (sm _ _ (Q p g))
      exact .inr (.inl ⟨e3,rfl,#[],ps,rfl,by rw[Array.empty_append];exact e4⟩)
     ·have T:=(L b _ q).1
      have e2:=(i b _ (sm _ _ q)).1
      rw[e] at T
      cases T
      exact .inl e2
 have U:∀ p∈ts,p.1≠a:=λp g z=>by
  have:=(c p g).1
  rw[z,O] at this
  cases this
 have W:ts.lookup a=none:=by
  cases e:ts.lookup a with
  | none=>rfl
  | some q=>exact absurd rfl (U _ (VP e))
 have E:∀ {G:Option (Addr×HO)} {b:Addr} {q:Nat->Nat->Str},ts.lookup b=some q->ZB P w (H00 ts G) s₁.heap b (.tbq q):=λ{G b q} e =>
  ⟨#[],(c _ (VP e)).1,trivial,λpos cv z=>by simp[codeAmong] at z⟩
 have Q:∀ G,∀ p∈ts,H00 ts G p.1=some (.tbq p.2):=λG p g=>by unfold H00;rw[HP nd g]
 cases hk:K.lookup a with
 | some o =>
  have e:=KX a o hk
  rw[O] at e
  cases e
  refine j (H00 ts none) (Q none) (.inr ⟨_,vs.toArray,_,hk,rfl,rfl,rfl,by rw[size_toArray,J];exact hl,by simpa using rv⟩) (λb u z=>?_) (λb u z=>?_) λb u z=>?_
  ·unfold H00 at z
   cases e:ts.lookup b with
   | none=>rw[e] at z;cases z
   | some q=>rw[e] at z;cases z;exact E e
  ·unfold H00 at z
   cases e:ts.lookup b with
   | none=>rw[e] at z;cases z
   | some q=>exact .inl ⟨_,VP e,rfl⟩
  ·unfold H00 at z
   cases e:ts.lookup b with
   | none=>rw[e] at z;cases z
   | some q=>exact (c _ (VP e)).2.1
 | none =>
  have A:H00 ts (some (a,.frz { cls:=.type "list",data:=.seq vs.toArray } (.lst (ns.map V.int)))) a=some (.frz { cls:=.type "list",data:=.seq vs.toArray } (.lst (ns.map V.int))):=by
   unfold H00;rw[W];exact if_pos rfl
  refine j (H00 ts (some (a,.frz { cls:=.type "list",data:=.seq vs.toArray } (.lst (ns.map V.int))))) (Q _) (.inl (.inr ⟨_,A⟩)) (λb u z=>?_) (λb u z=>?_) λb u z=>?_
  ·by_cases hb:b=a
   ·subst hb
    rw[A] at z
    cases z
    exact⟨O,by rw[length_map];exact hl,vs,_,rv,O⟩
   ·unfold H00 at z
    cases e:ts.lookup b with
    | none=>rw[e] at z;have C:=(if_neg hb).symm.trans z;cases C
    | some q=>rw[e] at z;cases z;exact E e
  ·by_cases hb:b=a
   ·subst hb
    rw[A] at z
    cases z
    exact .inr ⟨rfl,_,_,rfl⟩
   ·unfold H00 at z
    cases e:ts.lookup b with
    | none=>rw[e] at z;have C:=(if_neg hb).symm.trans z;cases C
    | some q=>exact .inl ⟨_,VP e,rfl⟩
  ·by_cases hb:b=a
   ·rw[hb];exact hk
   ·unfold H00 at z
    cases e:ts.lookup b with
    | none=>rw[e] at z;have C:=(if_neg hb).symm.trans z;cases C
    | some q=>exact (c _ (VP e)).2.1
theorem HR{l:PySem.W.OpenLaw}{k:Nat}{q:Program}{d:DefRec}{K:Params->W.Frag}{CX:World->CXT}{sp:World->Sp}{ts:List (Addr×(Nat->Nat->Str))}
  (nd:(ts.map Prod.fst).Nodup) (hn:l.most=some n) (A:n<=sizeLine) (C:d.params.defaults=[]) (R:Room k callerA)
  (X:∀ (w:World) (h:Heap),YP w h->(K w.params).In h) (hYt:∀ (w:World) (h:Heap),YP w h->∀ p∈ts,h.get? p.1=some (tabObj #[])) (hK:∀ (w:World) (p:Addr×(Nat->Nat->Str)),p∈ts->(K w.params).lookup p.1=none/\∃ c,codeHdIn (K w.params) c p.1=true)
  (F:∀ (w:World) (mg:Str->Option Value) (r:Addr) (h:Heap),(K w.params).In h->h.Ns mainGlobals mg->mg d.name=some (.ref r) ->
   ∃ fd:FuncData,(∀ (s:Shared) (u:Value),BindsTo s fd ⟨[u],[]⟩ [(x,u)]) /\
    ∀ base:Heap,(K w.params).In base->base.Ns mainGlobals mg->base.BuiltinsAt mg mainGlobals->FnOk l.prog w (K w.params) mg base (CX w) k r fd [x] (sp w))
  (y:∀ (w:World) (H:Hp) (a:Addr) (ns:List Int),ns.length<=n->(∀ x∈ns,Builtin.Int.intBits x<=2 ^ 20)->(∀ p∈ts,H p.1=some (.tbq p.2))->SqL (K w.params) H a (ns.map V.int)->sp w [.ref a] H (λv H'=>v=.bl true/\Zf H H') λ_ _ _=>False)
  (I:∀ (w:World) (H:Hp) (s:Shared) (e:Value) (s':Shared),CX w [] H s (λ_ _ _=>False) e s'->False) :
  PySem.W.WalkO q loose XP YP l.row.toRowW d [] (λf vs=>PySem.call f vs):=by
 refine Hx hn C λw s₀ s₁ mg mb r o pm cd doc a vs ns G Y ho hd T B j g b S i=>?_
 have M:=X w _ Y
 obtain⟨fd,U,hF⟩:=F w mg r _ M G.T.g B
 have E:s₁.heap.BuiltinsAt mg mainGlobals:=by
  obtain⟨P,Q,b1,b2,L,b4,b5,J⟩:=G.T.bmain
  have m:P≠mainGlobals:=λz=>by
   obtain⟨o,es,ep,e,d,_⟩:=G.T.g
   rw[z,e] at L
   cases L
   rw[d] at J
   cases J
  exact⟨P,Q,b1,b2,m,m,L,b4,b5,J⟩
 refine HQ nd M G.T.g G.T.b G.T.builtins G.T.nolimit S j g (Nat.le_trans b A) R (λp N=>?_) E hF U (λH Z hS=>y w H a ns b i Z hS) λH e s'=>I w H s₁ e s'
 obtain⟨h1,c,h2⟩:=hK w p N
 have O:=hYt w _ Y p N
 exact⟨O,h1,((codeHd_of_K M h2).tab O).isCodeTable⟩
end
section
variable{y:V}{r:Value}
theorem RI{Q:Unit->Shared->Prop}(P:A.units+1<cLine)(I:Inv X pins σ H s)(g:YN H a y v H')(x:Zo y u)(B:Zo v r)(h:∀ s',Inv X pins σ H' s'->Q () s') :
  wpAny (model X.prog X.w) A (dictSet a u r) Q E s:=by
 rcases g with⟨kvs,k,e,p,l,w⟩|⟨kvs,k,b,e,p,F,l,w⟩
 ·subst p w
  obtain⟨z,n,vs,rel,dd⟩:=PC I.hok e
  have hz:vs.length<=sizeLine:=by rw[<- rel.length];exact z
  have m:(ZU kvs k v).length<=sizeLine:=by have:=Vw kvs k v;omega
  refine wpAny_dictSet_pairs (hsz:=hz) (WW x) dd λh' f j=>h _ ?_
  have G:∃ q,h'.get? a=some q:=let ⟨q,_,_,i,_⟩:=f;⟨q,i⟩
  exact Y0 I (by rw[e];exact True.intro) j G (PF m n (rel.put k B) f)
 ·subst p w
  cases (show u=Value.ref b from x)
  obtain⟨z,n,xs,rel,dd⟩:=PD I.hok e
  have hz:xs.length<=sizeLine:=by rw[<- Paired.length rel];exact z
  have m:(ZU kvs k v).length<=sizeLine:=by have:=Vw kvs k v;omega
  refine wpAny_dictSet_heap (hsz:=hz) (show A.units<cLine by omega) (WX I.hok F) dd λh' f j=>h _ ?_
  obtain⟨q,es,N,i,M,L,K,_,J⟩:=f
  refine Y0 I (by rw[e];exact True.intro) j ⟨q,i⟩ ⟨m,n,_,(rel.put k F B).keeps λc O C=>?_,q,es,N,i,M,L,K,J⟩
  rw[Zn (Wb C e (λz=>nomatch z))]
  exact C
theorem OJ{kvs:List ((Key×List Key)×V)}{k:Key×List Key}{Q:Unit->Shared->Prop}(K:A.units+2<cLine)(I:Inv X pins σ H s)(e:H a=some (.dN kvs))(j:Xx H b k)(l:kvs.length<sizeLine)(m:Zo (.ref b) u)(n:Zo v r)(h:∀ s',Inv X pins σ (upd H a (.dN (ZU kvs k v))) s'->Q () s') :
  wpAny (model X.prog X.w) A (dictSet a u r) Q E s:=by
 cases (show u=Value.ref b from m)
 obtain⟨z,x,xs,rel,dd⟩:=Uk I.hok (.inl e)
 have hz:xs.length<=sizeLine:=by rw[<- Paired.length rel];exact z
 have w:(ZU kvs k v).length<=sizeLine:=by have:=Vw kvs k v;omega
 refine wpAny_dictSet_heap (hsz:=hz) (show (WP (ZY X.prog X.w)).room A from ⟨by omega,by show A.units+1<cLine;omega⟩) (VE I.hok j) dd λh' f p=>h _ ?_
 obtain⟨q,es,G,g,F,C,B,_,y⟩:=f
 refine Y0 I (by rw[e];exact True.intro) p ⟨q,g⟩ ⟨w,x,_,(rel.put k j n).keeps λc J i=>?_,q,es,G,g,F,C,B,y⟩
 rw[Zn (Wb i e (λz=>nomatch z))]
 exact i
theorem HS{Q:Unit->Shared->Prop}(B:A.units+2<cLine)(I:Inv X pins σ H s)(g:VF H a y v H')(j:Zo y u)(m:Zo v r)(h:∀ s',Inv X pins σ H' s'->Q () s') :
  wpAny (model X.prog X.w) A (dictSet a u r) Q E s:=by
 have big:([]:List (Key×V)).length<sizeLine:=by decide
 have n:([]:List (List Key×V)).length<sizeLine:=by decide
 rcases g with g|⟨k,rfl,e,rfl⟩|⟨k,b,rfl,eb,e,rfl⟩|⟨kvs,k,b,e,rfl,eb,l,rfl⟩|⟨k,b,rfl,eb,e,rfl⟩
 ·exact RI (by omega) I g j m h
 ·have x:=I.hok a _ e
  obtain⟨q,f⟩:∃ q,s.heap.get? a=some q:=by obtain⟨_,_,_,_,q,_,_,f,_⟩:=x;exact⟨q,f⟩
  have J:Inv X pins σ (upd H a (.dK [])) s:=Y0 (t':=s.toks) I (by rw[e];exact True.intro) (Heap.SameBut.refl a s.heap) ⟨q,f⟩ (U7 x)
  refine RI (by omega) J (YN.k (k:=k) (v:=v) ZF big) j m λs' i=>h s' ?_
  rw[Vn] at i
  exact i
 ·have x:=I.hok a _ e
  obtain⟨q,f⟩:∃ q,s.heap.get? a=some q:=by obtain⟨_,_,_,_,q,_,_,f,_⟩:=x;exact⟨q,f⟩
  have J:Inv X pins σ (upd H a (.dT [])) s:=Y0 (t':=s.toks) I (by rw[e];exact True.intro) (Heap.SameBut.refl a s.heap) ⟨q,f⟩ (P4 x)
  refine RI (by omega) J (YN.t (k:=k) (v:=v) ZF (by rw[Zn (Wb eb e (λz=>nomatch z))];exact eb) n) j m λs' i=>h s' ?_
  rw[Vn] at i
  exact i
 ·exact OJ B I e eb l j m h
 ·have x:ZB X.prog X.w H s.heap a (.dK []):=by
   rcases e with e|e
   ·exact I.hok a _ e
   ·exact U7 (I.hok a _ e)
  obtain⟨q,f⟩:∃ q,s.heap.get? a=some q:=by obtain⟨_,_,_,_,q,_,_,f,_⟩:=x;exact⟨q,f⟩
  have mu:Mut (H a):=by rcases e with e|e<;>rw[e]<;>exact True.intro
  have J:Inv X pins σ (upd H a (.dN [])) s:=Y0 (t':=s.toks) I mu (Heap.SameBut.refl a s.heap) ⟨q,f⟩ (P5 x)
  have w:∀ c p,H c=some (.tup p)->upd H a (.dN []) c=some (.tup p):=λc p C=>by
   rw[Zn (by rcases e with e|e<;>exact Wb C e (λz=>nomatch z))];exact C
  refine OJ B J ZF (let ⟨c,G,F⟩:=eb;⟨c,w _ _ G,w _ _ F⟩) (by decide) j m λs' i=>h s' ?_
  rw[Vn] at i
  exact i
end
def RJ(tk tv:TE):TE:=λσ H Q=>∀ p,H p=none->tk σ (upd H p (.dK [])) λx H1=>tv σ H1 λy H2=>∃ H',VF H2 p x y H'/\Q (.ref p) H'
variable{tv:TE}
theorem HU{k v:Expr}{tk:TE}(m:X.A.units+64<cLine)(h:PE X k tk)(e:PE X v tv):PE X (.Dict [some k] [v] pos) (RJ tk tv):=by
 intro b s c H Q I q
 have f:=I.hok.fresh (Nat.le_refl s.heap.objs.size)
 have i:=I.laid (a:=s.heap.objs.size) (o:=.dK []) (h':=s.heap.push { cls:=.type "dict",data:=.dict #[] }) (t':=s.toks) (λ_ _ q=>Heap.get?_push_of_some _ q) (Nat.le_refl _) (PH s.heap I.big)
 refine wpAny_Dict_any rfl rfl (by simp) (by show 1<=15;decide) ?_
 refine pairTrees_cons_walk (thn (h b _ c _ _ i (q _ f)) λu s1 ⟨x,H1,I2,rx,q1⟩=>thn (e b s1 c H1 _ I2 q1) λw2 s2 ⟨y,H2,I3,ry,H',g,q2⟩=>pairTrees_nil_walk ?_)
 unfold storeAll
 rw[forIn_cons]
 refine wpAny_bind (wpAny_bind (HS (by omega) I3 g rx ry λj J=>wpAny_pure ?_))
 show wpAny _ _ (forIn [] PUnit.unit _) _ _ _
 rw[forIn_nil]
 exact wpAny_pure ⟨.ref s.heap.objs.size,H',J,rfl,q2⟩
def OK(tk tv:TE)(n:Nat):TS:=Yc (RJ tk tv) (ZR n)
theorem HV{tk:TE}(g:X.N.Nodup)(hi:X.N[i]?=some x)(a:Loc X.env.scope x)(f:PE X e (RJ tk tv))(b:swapsWith e (some (.Name x pos')) pos.line X.env=pure false:=by rfl)(c:X.fn x=true\/X.env.scope.names.lookup x=some .local:=by first|exact .inl rfl|exact .inr rfl|assumption) :
  PS X (.Assign [.Name x pos'] e pos) (OK tk tv i):=Zp g hi a f b c
variable [Tabs]
section
variable{E:FK}{X:Exc->Sl->Prop}
abbrev rgI(n:Nat):List Int:=(List.range n).map λi:Nat=>(i:Int)
theorem SR.putT{σ:L2.St}[DecidableEq α]{c:α}{w:V}{b:TV}(F:KEnc f)(s:SR K H0 σ ρ (v::w::.ref l::ts) (.av (.d z)::b::.av (.dic [])::as) H)(st:Stb as)(X:b.data=f c)(R:NR b) :
  ∃ H',VF H l w v H'/\SR K H0 σ ρ (.ref l::ts) (.av (.dic (Zz f [(c,z)]))::as) H':=by
 have B:=s.pop.top R
 rw[X] at B
 obtain⟨⟨p,q,U,T,G,E⟩,J⟩:=s
 cases T with
 | @cons _ _ _ _ O q2 _ r rs eq =>
 cases r with
 | av r =>
 cases r with
 | d M W =>
 cases rs with
 | @cons _ _ _ _ N q4 _ Y rs m =>
 cases rs with
 | @cons _ _ _ _ x g _ r rs n =>
 cases r with
 | av r =>
 cases r with
 | @dic _ o _ _ S C I =>
  have j:Yi K H o (Zz f ([]:List (α×PyData))):=C.mono Ym
  obtain⟨h,Q,p2,P⟩:=Ou (v:=v) F j B (by simp)
  have Z:x l=1:=by have:=I l;simpa using this
  have a:∀ b,q b=O b+(N b+(x b+g b)):=λb=>by have:=eq b;have:=m b;have:=n b;omega
  have i:Zf (L2.hid H p q) (L2.hid (upd H l h) p q):=W1 λb u y _=>⟨y,λz=>by subst z;have:=a b;omega⟩
  have A:∀ b u,0<p b+g b->H b=some u->upd H l h b=some u:=λb u y e=>by
   rw[Zn (λz=>by subst z;have:=G b;have:=a b;omega)];exact e
  have L:Zf H0 (upd H l h):=J.updF (E l (by have:=a l;omega))
  refine⟨upd H l h,Q l S,SR.of_le (p:=p) (q:=q) (p':=p) (q':=λb=>(if b=l then 1 else 0)+g b) L G E (λb=>?_) (U.mono i λb u y e=>A b u (by omega) e) (.cons (.av (.dic ZF (P _ z (C.mono i) (M.same i)) λ_=>rfl)) (rs.monoS i st λb o y e=>A b o (by omega) e) λ_=>rfl)⟩
  have:=I b
  have:=a b
  show p b+((if b=l then 1 else 0)+g b)<=p b+q b
  omega
theorem HW[DecidableEq α]{tk:TE}{bk:Sl->Prop}(F:KEnc f)(hn:n<ρ.length)(h:Ev K E X tk ρ λb=>∃ c,b.data=f c/\NR b/\Ev K E X tv ρ λa=>∃ z,a.sto=some (.d z)/\nx (ρ.set n (some (.dic (Zz f [(c,z)]))))) :
  Sv K E X (OK tk tv n) ρ ⟨nx,rt,bk,ct⟩:=λi e ts as H D j s x u=>by
 intro p r
 refine h i e _ _ _ _ (s.newD r) x λb ⟨c,eb,nb,h2⟩ w H1 s1=>h2 i e _ _ H1 _ s1 x λa ⟨z,ea,q⟩ v H2 s2=>?_
 obtain⟨y,g,m⟩:=SR.putT F (s2.sto ea) j eb nb
 exact⟨y,g,u.nx _ q _ _ (m.store hn)⟩
end
def Yb(s:Stmt):Pos:=match s with
 | .FunctionDef _ _ _ _ _ _ _ _ _ p=>p
 | _=>⟨0,0,0,0⟩
structure TxM(K:W.Frag)(mg:Str->Option Value)(x:Str)(st:Stmt)(ps:List Str)(c0 Pt:Addr):Prop where
 ex:∃ (f:Addr) (oc kV doc pm ct:Value) (od an:Option Addr) (osl:Array (Option Value)),
  K.lookup f=some ⟨oc,od,.func (PySem.W.fnOf x x (ZP st) (Zv st) (Zd st) .none kV doc pm an (.ref c0) ct),osl⟩/\W.codeIn K (.ref c0) x=true/\mg x=some (.ref f)/\W.keepIn K (.ref f)=true /\
  Wd K (PySem.W.fnOf x x (ZP st) (Zv st) (Zd st) .none kV doc pm an (.ref c0) ct) ps []
 tab:W.codeHdIn K c0 Pt=true
theorem Vb{f:Addr}{kV ct:Value}(X:K.In h)(G:h.Ns mainGlobals mg)
  (a:W.nsIn K mainGlobals x=some (some (.ref f))) (l:K.lookup f=some ⟨oc,od,.func (PySem.W.fnOf x x (ZP st) (Zv st) (Zd st) .none kV doc pm an (.ref c0) ct),sl⟩)
  (c:W.codeIn K (.ref c0) x=true) (k:W.keepIn K (.ref f)=true) (m:W.codeHdIn K c0 Pt=true)
  (hb:∀ (us:List Value),us.length=ps.length->bindArgs (PySem.W.fnOf x x (ZP st) (Zv st) (Zd st) .none kV doc pm an (.ref c0) ct) ⟨us,[]⟩=pure (ps.zip us)):TxM K mg x st ps c0 Pt :=
 ⟨⟨f,oc,kV,doc,pm,ct,od,an,sl,l,c,PySem.W.mg_of X G a,k,.all hb⟩,m⟩
variable [Tabs]
theorem Ty{k:Nat}(T:TxM K mg x st ps c0 Pt)(u:FnScope N ps (Zd st))(n:∀ cs,Pre cs->cs.length=ps.length)
  (a:∀ (f:Addr) (A:Around) (outer:List Env) (s:Shared) (H:Hp) (E:XK),Room k (A.deeper (envOfC x (Zd st) s.heap.objs.size f (.ref c0))) ->
   ∃ t,PSs (YM CX P w K mg base N x (Zd st) f (.ref c0) A outer s H E).nox (Zv st) t/\∀ cs,Pre cs->Sv K (toF E) NE t (inA N cs) (VO (Post cs))) :
  Cal P w K mg base CX (k+1) x ps [] (spR K Pre Post NP):=by
 obtain⟨f,B,kV,r,v,ct,y,C,c,e,b,i,j,m⟩:=T.ex
 refine⟨f,_,[],SH e b u (λvs H Q E h=>Ur h n) λA outer s H vs Q E g h=>?_,i,j,m,.nil⟩
 obtain⟨t,q,p⟩:=a f A outer s H E g
 exact⟨t,q.nox,Tn h λcs pre=>p cs pre⟩
theorem RK{k:Nat}{E:XK}{p:Pos}{t:TA}(n:X.prog=P)(hw:X.w=w)(hK:X.K=K)(h:X.mg=mg)(hb:X.base=base)
  (g:Room k X.A) (c:WU CX X E) (m:PA X (e::es) t) (q:X.N[i]?=some x:=by rfl) (f:Vis X.env.scope x:=by first|exact Or.inl rfl|exact Or.inr (Or.inl rfl)|exact Or.inr (Or.inr rfl))
  (hd:(x == ("__debug__" : Str))=false:=by decide) (b:(x == ("__classdict__" : Str))=false:=by decide)
  (j:starEach (e::es) X.env=(false,eval e X.env)::starEach es X.env:=by rfl) (a:(backTo pos (starEach es X.env)).any (·.1)=false:=by rfl) :
  PE X (.Call (.Name x p) (e::es) [] pos) (RE P w K mg base CX k i E t):=by
 subst n hw hK h hb
 exact HG g c m q f hd b j a
variable [Tabs]{Θ:Type}
def spF(K:W.Frag)(Pre:Θ->List AV->Prop)(Post:Θ->List AV->AV->Prop):Sp:=λvs H Q E=>∃ θ,spR K (Pre θ) (Post θ) NP vs H Q E
section
variable{k:Nat}{Pre:Θ->List AV->Prop}{Post:Θ->List AV->AV->Prop}
theorem Ws(T:Tx K mg x st ps dvss)(g:FnScope N ps (Zd st))(b:∀ θ cs,Pre θ cs->cs.length=ps.length)
  (a:∀ (θ:Θ) (f:Addr) (cdv:Value) (A:Around) (outer:List Env) (s:Shared) (H:Hp) (E:XK),Room k (A.deeper (envOfC x (Zd st) s.heap.objs.size f cdv)) ->
   ∃ t,PSs (YM CX P w K mg base N x (Zd st) f cdv A outer s H E).nox (Zv st) t/\∀ cs,Pre θ cs->Sv K (toF E) NE t (inA N cs) (VO (Post θ cs))) :
  ∀ dvs∈dvss,Cal P w K mg base CX (k+1) x ps dvs (spF K Pre Post) :=
 T.cal (k:=k) g (λvs H Q E ⟨θ,h⟩=>Ur h (b θ)) λf cdv A outer s H vs Q E hr ⟨θ,h⟩ =>
  let ⟨t,e,c⟩:=a θ f cdv A outer s H E hr
  ⟨t,e,Tn h λcs pre=>c cs pre⟩
theorem RL(T:TxM K mg x st ps c0 Pt)(u:FnScope N ps (Zd st))(n:∀ θ cs,Pre θ cs->cs.length=ps.length)
  (a:∀ (θ:Θ) (f:Addr) (A:Around) (outer:List Env) (s:Shared) (H:Hp) (E:XK),Room k (A.deeper (envOfC x (Zd st) s.heap.objs.size f (.ref c0))) ->
   ∃ t,PSs (YM CX P w K mg base N x (Zd st) f (.ref c0) A outer s H E).nox (Zv st) t/\∀ cs,Pre θ cs->Sv K (toF E) NE t (inA N cs) (VO (Post θ cs))) :
  Cal P w K mg base CX (k+1) x ps [] (spF K Pre Post):=by
 obtain⟨f,B,kV,r,v,ct,y,C,c,e,b,i,j,m⟩:=T.ex
 refine⟨f,_,[],SH e b u (λvs H Q E ⟨θ,h⟩=>Ur h (n θ)) λA outer s H vs Q E g h=>?_,i,j,m,.nil⟩
 obtain⟨θ,h⟩:=h
 obtain⟨t,q,p⟩:=a θ f A outer s H E g
 exact⟨t,q.nox,Tn h λcs pre=>p cs pre⟩
end
section
variable{E:FK}{X:Exc->Sl->Prop}{Q:TV->Prop}{Pre:Θ->List AV->Prop}{Post:Θ->List AV->AV->Prop}
theorem ZH{A:TA}(h:Ea K E X A ρ λbs=>∃ θ,ClR (Pre θ) (Post θ) NP [] Q (λ_=>True) bs):Ev K E X (WT (spF K Pre Post) [] E' A) ρ Q:=λn f ts as H p s x k =>
 h n f ts as H _ s x λbs ⟨θ,cs,sh,pre,q,_⟩ vs H' s' hl=>by
  obtain⟨i,b⟩:=SR.lent sh hl s'
  exact⟨θ,x.t.same b.same,cs++[],i.app Rw,pre,λc j v m r=>let ⟨a,g,z⟩:=q c j;k a z v m (b.gotG r g),λe z=>z.elim⟩
theorem Vc{A:TA}(h:Ea K E X A ρ λbs=>∃ θ cs,ShLs K Y ρ bs cs/\Pre θ (cs++[])/\∀ c,Post θ (cs++[]) c->c.plain=true/\∃ a,Got c a/\Q a):Ev K E X (OG Y (spF K Pre Post) [] E' A) ρ Q:=λn f ts as H p s x k =>
 h n f ts as H _ s x λbs ⟨θ,cs,sh,pre,q⟩ vs H1 s' hl H2 L=>by
  obtain⟨i,b⟩:=SR.lentL L sh hl s'
  refine⟨θ,(x.t.same b.same).same L.same,cs++[],i.app Rw,pre,λc m v u r=>?_,λe z=>z.elim⟩
  obtain⟨j,a,g,z⟩:=q c m
  exact k a z v _ (b.gotG (Rs.unl j L.own L.same r) g)
theorem HX{A:TA}(h:Ea K E X A ρ λbs=>NRs bs/\bs.length<=1000/\Q (.bor (.tuple (bs.map TV.data)))):Ev K E X (SF A) ρ Q:=λf b ts as H g s x k =>
 h f b ts as H _ s x λbs ⟨nr,hz,q⟩ vs H2 s2 hl=>by
  obtain⟨e,c⟩:=SR.reps nr.all hl s2
  exact⟨Nat.le_of_lt (small1000 (by omega)),λp a=>k _ q _ _ ((c.ext (YQ a)).pushB (.tup ZF (e.same (YQ a))))⟩
end
variable [Tabs]
section
variable{E:FK}{X:Exc->Sl->Prop}{Q:TV->Prop}{a b:TV}
theorem is_N(c:a.data=.none)(q:Q (.av (.d (.bool true))))(na:NR a:=by first|exact NR.av|exact NR.bor):Op K E X (λx y H Q=>y=.non/\Q (.bl (decide (x=.non))) H) a (.av (.d .none)) Q:=λh e f ts as H x y g s _ k=>by
 have r:=s.pop.top na
 have b:=s.top_d
 rw[c] at r
 cases r
 cases b
 exact⟨rfl,k _ q _ _ (s.pop.pop.bl _)⟩
def RM:PyData->Bool
 | .tuple _=>true
 | .list _=>true
 | .int _=>true
 | .str _=>true
 | _=>false
theorem HY{x:PyData}(a:RM x=true)(r:Rep K H v x):v≠.non:=by
 intro e
 subst e
 cases r<;>simp[RM] at a
theorem is_S(c:RM a.data=true)(q:Q (.av (.d (.bool false))))(na:NR a:=by first|exact NR.av|exact NR.bor):Op K E X (λx y H Q=>y=.non/\Q (.bl (decide (x=.non))) H) a (.av (.d .none)) Q:=λh f g ts as H x y e s _ k=>by
 have r:=s.pop.top na
 have b:=s.top_d
 cases b
 refine⟨rfl,?_⟩
 show e (.bl (decide (x=.non))) H
 rw[decide_eq_false (HY c r)]
 exact k _ q _ _ (s.pop.pop.bl _)
abbrev OkS:={ x:Str // PyData.strOk x=true }
abbrev dS(x:OkS):PyData:=.str x.1
theorem Enc.str:Enc dS 0:=⟨λa b=>by simp[PyData.eqv,Subtype.ext_iff],λx=>by simp[PyData.canLay0,x.2],λ_=>by simp[PyData.depth]⟩
end
theorem OL:∀ {ks:List Int} {its:List Value},Zm (ks.map V.int) its->IntsAre its ks
 | [],_,.nil=>.nil
 | k::ks,_,.cons r t=>by
  obtain⟨t',rfl⟩:=r
  exact .cons k t' (OL t)
def ddI(σ:List Int)(k:Int):List Int:=if k∈σ then σ else σ++[k]
theorem HZ(σ:List Int)(k:Int):step_dedup σ k=ddI σ k:=by
 unfold step_dedup ddI
 have e:σ.any (· == k)=decide (k∈σ):=by
  rw[Bool.eq_iff_iff,List.any_eq_true,decide_eq_true_iff]
  exact⟨λ⟨x,b,a⟩=>by rw[<- beq_iff_eq.mp a];exact b,λh=>⟨k,h,by simp⟩⟩
 rw[e]
 by_cases h:k∈σ<;>simp[h]
theorem range_getD(ks:List Int):(List.range ks.length).map (λi=>ks.getD i 0)=ks:=by
 refine ext_getElem (by simp) λi b a=>?_
 simp[getD_eq_getElem?_getD,getElem?_eq_getElem a]
theorem Ga(ks:List Int):firstMet (λi=>ks.getD i 0) ks.length=ks.foldl ddI []:=by
 unfold firstMet
 rw[range_getD]
 have:(step_dedup:List Int->Int->List Int)=ddI:=funext λa=>funext λk=>HZ a k
 rw[this]
def setS(ks:List Int):Int->Bool:=λk=>(ks.foldl ddI []).any (· == k)
def Ut(ks:List Int):Nat:=(ks.foldl ddI []).length
def OM(K:W.Frag):List V->Hp->VK->Prop:=λxs H Q=>∃ (l:Addr) (ks:List Int),xs=[.ref l]/\SqL K H l (ks.map V.int)/\ks.length<=4000/\∀ p,H p=none->Q (.ref p) (upd H p (.set (setS ks) (Ut ks)))
theorem ON(hK:X.K=K)(x:X.calm=true):Z1 X (.type "set") (OM K):=by
 subst hK
 intro f s y H xs us Q I r h
 obtain⟨l,ks,rfl,p,hz,q⟩:=h
 obtain⟨u,rfl,m⟩:=r.one
 cases (show u=Value.ref l from m)
 obtain⟨a,c,n,_⟩:=I.list p
 have g:a.toArray.size=ks.length:=by rw[size_toArray,<- c.length,length_map]
 refine call_set_list (I.ok.hd x) n.isList (OL (by simpa using c)) (by rw[g];unfold scanBound;omega) λh' j i w=>?_
 rw[g,Ga] at i
 have v:H s.heap.objs.size=none:=I.hok.fresh (Nat.le_refl _)
 refine⟨.ref s.heap.objs.size,_,I.laid (t':=j) (o:=.set (setS ks) (Ut ks)) (λb o e=>w b o (Heap.lt_size e) e) (Nat.le_refl _) i,rfl,q _ v⟩
def OO:List V->Hp->VK->Prop:=λxs H Q=>∃ (p:Addr) (S:Int->Bool) (n:Nat),xs=[.ref p]/\H p=some (.set S n)/\Q (.int n) H
theorem OP:Z1 X (.builtin "len") OO:=by
 intro b s v H xs us Q I r h
 obtain⟨p,S,n,rfl,e,q⟩:=h
 obtain⟨u,rfl,c⟩:=r.one
 cases (show u=Value.ref p from c)
 obtain⟨o,es,w,t,m,a,i,_,_,j,g,f⟩:=(show ZB X.prog X.w H s.heap p (.set S n) from I.hok p _ e)
 subst f
 exact PySem.call_len_set m a i g (by unfold scanBound at j;omega) ⟨.int es.size,H,I.tok _,⟨_,rfl⟩,q⟩
variable [Tabs]
section
variable{E:FK}{X:Exc->Sl->Prop}{Q:TV->Prop}
theorem Rep.intsL{ks:List Int}(h:Rep K H v (.list (ks.map .int))):∃ l,v=.ref l/\SqL K H l (ks.map V.int):=by
 cases h with
 | @lst a xs ds c b =>
  refine⟨a,rfl,?_⟩
  have:xs=ks.map V.int:=by
   clear c
   induction ks generalizing xs with
   | nil=>cases b;rfl
   | cons k ks e=>cases b with
    | cons r rs=>rw[r.int_inv,e rs];rfl
  rw[<- this];exact c
def RN(n:Nat):V->Hp->Prop:=λv H=>∃ p S,v=.ref p/\H p=some (.set S n)
theorem SR.pushSet{σ:L2.St}{S:Int->Bool}(h:SR K H0 σ ρ ts as H)(hl:H l=none):SR K H0 σ ρ (.ref l::ts) (.av (.obj (RN n))::as) (upd H l (.set S n)):=by
 obtain⟨⟨p,q,f,c,j,i⟩,e⟩:=h
 have g:p l+q l=0:=by
  rcases Nat.eq_zero_or_pos (p l+q l) with w|w
  ·exact w
  ·obtain⟨_,w,_⟩:=SR.lsts f c l w;rw[hl] at w;cases w
 have a:Zf H (upd H l (.set S n)):=YQ hl
 have m:Zf (L2.hid H p q) (L2.hid (upd H l (.set S n)) p q):=W0 a
 refine⟨⟨p,q,f.mono m (λb o _=>a b o),.cons (.av (.obj (p:=λ_=>0) ⟨l,S,rfl,?_⟩ (λG1 G2 m ⟨p,S,e1,e2⟩=>⟨p,S,e1,m _ _ e2⟩) λ_=>rfl)) (c.mono m a) (λb=>by simp),j,i⟩,e.trans a⟩
 unfold L2.hid
 rw[if_pos g]
 exact ZF
theorem OQ{a:TV}{ks:List Int}(f:a.data=.list (ks.map .int))(hz:ks.length<=4000)(q:Q (.av (.obj (RN (Ut ks)))))(na:NR a:=by first|exact NR.av|exact NR.bor):Bi K E X (OM K) [a] Q:=λj g h ts as H vs i s e _ k=>by
 obtain⟨v,rfl,s⟩:=Y5 s e
 have r:=s.top na
 rw[f] at r
 obtain⟨l,rfl,b⟩:=Rep.intsL r
 exact⟨l,ks,rfl,b,hz,λp c=>k _ q _ _ (s.pop.pushSet c)⟩
theorem OR(q:Q (.av (.d (.int (n:Nat))))):Bi K E X OO [.av (.obj (RN n))] Q:=λy i j ts as H vs x s b _ k=>by
 obtain⟨v,rfl,s⟩:=Y5 s b
 have:∃ p S,v=.ref p/\H p=some (.set S n):=by
  obtain⟨⟨p,q,w,c,u,m⟩,e⟩:=s
  cases c with
  | cons r _ _ =>
   cases r with
   | av r =>
    cases r with
    | obj f _ _ =>
     obtain⟨p',S,h,g⟩:=f
     exact⟨p',S,h,Ym _ _ g⟩
 obtain⟨p,S,rfl,a⟩:=this
 exact⟨p,S,n,rfl,a,k _ q _ _ (s.pop.int _)⟩
theorem OS{i j:Int}(q:Q (.av (.d (.int (if j<i then j else i))))):Bi K E X (λxs H Q=>∃ i j,xs=[.int i,.int j]/\Q (.int (if j<i then j else i)) H) [.av (.d (.int i)),.av (.d (.int j))] Q:=λg c e ts as H vs f s b _ k=>by
 obtain⟨rfl,a⟩:=S9 s b
 exact⟨i,j,rfl,k _ q _ _ (a.int _)⟩
theorem OT{α:Type}[DecidableEq α]{x:α}:∀ {xs:List α} {i:Nat} (h:i<xs.length),i<xs.idxOf x->xs[i]≠x
 | [],i,h,_=>by simp at h
 | a::xs,i,h,hj=>by
  rw[idxOf_cons] at hj
  by_cases e:a=x
  ·rw[show (a == x)=true from beq_iff_eq.mpr e] at hj;simp at hj
  ·rw[show (a == x)=false from beq_false_of_ne e] at hj
   cases i with
   | zero=>exact e
   | succ i=>exact OT (xs:=xs) (by simpa using h) (by simpa using hj)
end
def OU(K:W.Frag):V->List V->Hp->VK->Prop:=λx vs H Q=>∃ (ds:List PyData) (d:PyData) (v:V),vs=[v]/\Rep K H x (.list ds)/\Rep K H v d/\PyData.canLayAll0 ds=true/\d.canLay0=true/\d.depth<=32/\ds.length<=1000000/\Q (.int (ds.countP λy=>PyData.eqv y d:Nat)) H
theorem OV(hK:X.K=K)(O:X.A.units+64<cLine):MtR X "list.count" (OU K):=by
 subst hK
 intro g s M H x vs v us Q I p r h
 obtain⟨ds,d,N,rfl,J,G,b,i,P,hz,q⟩:=h
 obtain⟨u,rfl,w⟩:=r.one
 obtain⟨as,B⟩:=Rep.reads I (by simpa [PyData.canLay0] using b) J p
 obtain⟨bs,A⟩:=Rep.reads I i G w
 cases B with
 | @list a o items n _ as m e c j =>
  obtain⟨cl,f,L,sl⟩:=o
  replace e:cl=.type "list" := e
  replace c:L=.seq items n:=c
  subst e c
  have E:items.toList.map (SeqAt.readOf s.heap)=ds:=SeqAt.readsAll_map ds _ _ b j
  refine call_meets F.slot_list_count ⟨_,m,rfl⟩ F.entry_list_count (F.args_list_count_2 _ _) (PySem.SeqAt.list_countAt a items n f sl u (λy=>PyData.eqv (SeqAt.readOf s.heap y) d)) ⟨m,λy C=>?_,?_⟩
  ·exact SeqAt.items_eqAt j A b i (by have:=Nat.min_le_right (PyData.depthAll ds) d.depth;omega) y C
  ·refine⟨.int (ds.countP λy=>PyData.eqv y d:Nat),H,I.tok _,⟨s.toks,?_⟩,q⟩
   rw[<- E,List.countP_map]
   rfl
variable [Tabs]
section
variable{E:FK}{X:Exc->Sl->Prop}{Q:TV->Prop}
theorem OW{i j:Int}(q:Q (.av (.d (.int (if j > i then j else i))))):Bi K E X (λxs H Q=>∃ i j,xs=[.int i,.int j]/\Q (.int (if j > i then j else i)) H) [.av (.d (.int i)),.av (.d (.int j))] Q:=λg c e ts as H vs f s b _ k=>by
 obtain⟨rfl,a⟩:=S9 s b
 exact⟨i,j,rfl,k _ q _ _ (a.int _)⟩
theorem OX[DecidableEq α](F:Enc f m)(h:Ev K E X te ρ λa=>∃ xs:List α,a.data=.list (xs.map f)/\NR a/\xs.length<=1000000/\Ev K E X ti ρ λb=>∃ c,b.data=f c/\NR b/\Q (.av (.d (.int (xs.count c:Nat)))))(u:m<=32:=by decide) :
  Ev K E X (tBM K "list" (OU K) te (YZ ti YL)) ρ Q:=λp g ts as H A s x k =>
 h p g ts as H _ s x λa ⟨xs,ha,na,hz,h2⟩ v H1 s1=>by
  have n:=s1.top na
  rw[ha] at n
  have r:tyV K "list" v H1:=by
   cases n with
   | lst e _=>exact .inl ⟨rfl,_,e⟩
  refine⟨r,h2 p g _ _ H1 _ s1 x λb ⟨c,hb,nb,q⟩ w H2 s2=>?_⟩
  have j:=s2.top nb
  have i:=s2.pop.top na
  rw[hb] at j
  rw[ha] at i
  refine⟨xs.map f,f c,w,rfl,i,j,Ta F xs,F.lay c,Nat.le_trans (F.dep c) u,by rw[length_map];exact hz,?_⟩
  have e:(xs.map f).countP (λy=>PyData.eqv y (f c))=xs.count c:=by
   rw[List.countP_map,List.count]
   refine List.countP_congr λy _=>?_
   show PyData.eqv (f y) (f c)=true↔(y == c)=true
   rw[F.eqv y c,beq_iff_eq]
  rw[e]
  exact k _ q _ _ (s2.pop.pop.int _)
end
variable [Tabs]
theorem RAs.cat{zs:List V}{ys:List AV}{q:Fp}(h2:RAs K G H zs ys q):∀ {vs:List V} {xs:List AV} {p:Fp},RAs K G H vs xs p->RAs K G H (vs++zs) (xs++ys) (λb=>p b+q b)
 | _,_,p,.nil e=>by
  have z:(λb=>p b+q b)=q:=funext λb=>by rw[e b,Nat.zero_add]
  rw[z]
  exact h2
 | _,_,_,.cons r1 rs e=>.cons r1 (RAs.cat h2 rs) λb=>by have:=e b;omega
variable [Tabs]
section
variable{E:FK}{X:Exc->Sl->Prop}{Q:TV->Prop}{j:Int}{b:TV}
theorem Gb{k:Int}{j:Nat}(m:ixN xs.length k=some j)(n:xs[j]?=some c)(q:Q (.av c)):Op K E X (rOr (WV K) r') (.av (.own xs)) (.av (.d (.int k))) Q:=λS L M ts as H x y R s _ h=>by
 have I:=s.top_d.int_inv
 subst I
 obtain⟨⟨p,q',B,A,v,u⟩,g⟩:=s.pop
 cases A with
 | @cons _ _ _ _ N a _ r rs eq =>
 cases r with
 | av r =>
 cases r with
 | @own l us _ P _ i f J =>
 obtain⟨e,O,w,G,F,C,_⟩:=f.pick n
 refine .inl ⟨l,us,k,w,rfl,rfl,SqL.of i,?_,h _ q _ _ (SR.of_le (p:=p) (q:=q') (p':=p) (q':=λb=>e b+a b) g v u (λb=>?_) B (.cons (.av C) rs λ_=>rfl))⟩
 ·unfold L2.atI
  rw[f.len,m]
  exact F
 ·have:=eq b;have:=J b;have:=G b
  show p b+(e b+a b)<=p b+q' b
  omega
end
theorem Rep.str_inv{z:Str}(h:Rep K H v (.str z)):v=.str z:=by cases h;rfl
variable [Tabs]
section
variable{E:FK}{X:Exc->Sl->Prop}{Q:TV->Prop}{a b:TV}
theorem small6'(h:n<=1000000):n<=sizeLine:=Nat.le_of_lt (small6 h)
theorem RO{z:Str}{k:Int}{c:Nat}(f:a.data=.str z)(hz:z.length<=1000000)(e:atI z.cps.toList k=some c)(q:Q (.av (.d (.str ⟨#[c]⟩))))(na:NR a:=by first|exact NR.av|exact NR.bor):Op K E X (Tf K) a (.av (.d (.int k))) Q:=XB (XB (XU λn i j ts as H x y m s _ b=>by
 have h:=s.top_d.int_inv
 have r:=s.pop.top na
 rw[f] at r
 have g:=Rep.str_inv r
 subst h g
 exact⟨z,k,c,rfl,rfl,small6' hz,e,b _ q _ _ (s.pop.pop.push λ_=>.str _)⟩))
theorem OY{y z:Str}(h:a.data=.str y)(hb:b.data=.str z)(hz:y.length+z.length<=1000000)(q:Q (.av (.d (.str (y++z)))))(na:NR a:=by first|exact NR.av|exact NR.bor)(f:NR b:=by first|exact NR.av|exact NR.bor):Op K E X (Rj K) a b Q:=XB (XB (XB (XU λr m n ts as H u v p s _ g=>by
 have e:=s.top f
 have c:=s.pop.top na
 rw[hb] at e
 rw[h] at c
 have j:=Rep.str_inv e
 have i:=Rep.str_inv c
 subst j i
 exact⟨y,z,rfl,rfl,small6' hz,g _ q _ _ (s.pop.pop.push λ_=>.str _)⟩)))
end
section
open PySem.Calls
theorem OZ:∀ {vs:List Value} {zs:List Str},StrsAre vs zs->Zm (zs.map V.str) vs
 | _,_,.nil=>.nil
 | _,_,.cons x t h=>.cons ⟨t,rfl⟩ (OZ h)
end
section
open PyProof.Rows (sortedS)
variable [Tabs]
theorem SR.strs(h:SR K H0 σ ρ ts as H):∀ zs:List Str,SR K H0 σ ρ (zs.map V.str++ts) ((zs.map λz=>AV.d (.str z)).map TV.av++as) H
 | []=>h
 | z::zs=>(SR.strs h zs).push λ_=>.str z
end
section
variable{z ti to' j1 j2 m1 m2:Addr}{k:Nat}{us vs:Array Value}{a b:Value}
theorem Gc{v:Value}(D:ZipApart z ti to' j1 j2 m1 m2)(m:IsZip s.heap z ti to' .none)(wi:IsPair s.heap ti (.ref j1) (.ref j2))(X:IsPair s.heap to' a b)
  (n1:s.heap.IsTupleIter j1 m1 k) (n2:s.heap.IsTupleIter j2 m2 k) (Y:s.heap.IsTuple m1 us) (t2:s.heap.IsTuple m2 vs) (eu:us[k]?=some u) (ev:vs[k]?=some v)
  (q:∀ h',IsZip h' z ti to' (rawInt s.heap.objs.size)->IsPair h' to' u v->h'.IsTupleIter j1 m1 (k+1)->h'.IsTupleIter j2 m2 (k+1)->IsPair h' s.heap.objs.size u v ->
   (∀ c o,c≠z->c≠to'->c≠j1->c≠j2->s.heap.get? c=some o->h'.get? c=some o)->Q (.ref s.heap.objs.size) { s with heap:=h' }) :
  wpAny (model prog w) A (Builtin.«zip.__next__» ⟨[.ref z],[]⟩) (λf s'=>∃ r,f=.done (.ret r)/\Q r s') E s:=by
 show wpAny _ _ (field (.ref z) 2 >>= _) _ _ _
 refine wpAny_bind (wpAny_field m rfl (x:=.bool false) rfl ?_)
 show wpAny _ _ (field (.ref z) 3 >>= _) _ _ _
 refine wpAny_bind (wpAny_field m rfl (x:=.ref ti) rfl (wpAny_bind (wpAny_seqItems wi rfl ?_)))
 show wpAny _ _ (Builtin.SmallTypes.ownedTupleIsFree (.ref z) >>= _) _ _ _
 refine wpAny_bind ?_
 unfold Builtin.SmallTypes.ownedTupleIsFree
 refine wpAny_bind (wpAny_field m rfl (x:=.none) rfl (wpAny_pure ?_))
 simp only[if_true]
 refine wpAny_bind (wpAny_rule (wpAny_bind (wpAny_field m rfl (x:=.ref to') rfl (wpAny_bind (wpAny_setField_rec m (by simp) λg1 J h=>?_)))))
 replace J:IsZip g1 z ti to' .ellipsis:=J
 refine wpAny_bind ?_
 simp only[List.zipIdx_cons,List.zipIdx_nil,forIn_cons,forIn_nil]
 refine wpAny_bind (wpAny_bind (wpAny_onRaise ?_))
 show wpAny _ _ (Builtin.SmallTypes.nextOf (.ref j1) >>= _) _ _ _
 refine wpAny_bind (Ry (n1.extBut h.extBut D.i1z) (Y.extBut h.extBut D.l1z) eu λg2 p1 j=>wpAny_pure ?_)
 have R:IsPair g2 to' a b:=j.extBut _ _ D.TOi1 (h.extBut _ _ D.TOz X)
 refine wpAny_bind (wpAny_seqItems R rfl (wpAny_bind (wpAny_updateSeq_pair R λg3 K i=>?_)))
 replace K:IsPair g3 to' u b:=K
 refine wpAny_bind (wpAny_letGo (wpAny_pure (wpAny_bind (wpAny_bind (wpAny_onRaise ?_)))))
 show wpAny _ _ (Builtin.SmallTypes.nextOf (.ref j2) >>= _) _ _ _
 refine wpAny_bind (Ry (((n2.extBut h.extBut D.i2z).extBut j.extBut D.i12.symm).extBut i.extBut D.TOi2.symm) (((t2.extBut h.extBut D.l2z).extBut j.extBut D.l2i1).extBut i.extBut D.l2TO) ev λg4 p2 p=>wpAny_pure ?_)
 have P:IsPair g4 to' u b:=p.extBut _ _ D.TOi2 K
 refine wpAny_bind (wpAny_seqItems P rfl (wpAny_bind (wpAny_updateSeq_pair P λg C n=>?_)))
 replace C:IsPair g to' u v:=C
 refine wpAny_bind (wpAny_letGo (wpAny_pure (wpAny_pure (wpAny_bind (wpAny_seqItems C rfl (wpAny_bind (wpAny_newTuple ?_)))))))
 have sz:g.objs.size=s.heap.objs.size:=by rw[n.1,p.1,i.1,j.1,h.1]
 have N:IsZip g z ti to' .ellipsis:=n.extBut _ _ D.TOz.symm (p.extBut _ _ D.i2z.symm (i.extBut _ _ D.TOz.symm (j.extBut _ _ D.i1z.symm J)))
 have kp:∀ c o,c≠z->c≠to'->c≠j1->c≠j2->s.heap.get? c=some o->g.get? c=some o:=λc o H G M L e =>
  n.extBut _ _ G (p.extBut _ _ L (i.extBut _ _ G (j.extBut _ _ M (h.extBut _ _ H e))))
 have q1:g.IsTupleIter j1 m1 (k+1):=((p1.extBut i.extBut D.TOi1.symm).extBut p.extBut D.i12).extBut n.extBut D.TOi1.symm
 have Z:g.IsTupleIter j2 m2 (k+1):=p2.extBut n.extBut D.TOi2.symm
 have S:z<g.objs.size:=Heap.lt_size N
 show wpAny _ _ (Builtin.SmallTypes.ownedTupleHandOut (.ref z) (.ref g.objs.size) >>= _) _ _ _
 refine wpAny_bind ?_
 unfold Builtin.SmallTypes.ownedTupleHandOut
 have W:IsZip (g.push { cls:=.type "tuple",data:=.seq #[u,v] }) z ti to' .ellipsis:=Heap.get?_push_of_some _ N
 refine wpAny_bind (wpAny_setField_rec W (by simp) λg7 I U=>?_)
 replace I:IsZip g7 z ti to' (rawInt g.objs.size):=I
 refine wpAny_setField_rec I (by simp) λF y T=>?_
 replace y:IsZip F z ti to' (rawInt g.objs.size):=y
 have B:∀ c o,c≠z->g.get? c=some o->F.get? c=some o:=λc o d e=>T.extBut _ _ d (U.extBut _ _ d (Heap.get?_push_of_some _ e))
 have O:IsPair F g.objs.size u v:=T.extBut _ _ (Nat.ne_of_gt S) (U.extBut _ _ (Nat.ne_of_gt S) (Heap.get?_push_size _ rfl))
 rw[sz] at y O
 refine wpAny_pure ⟨_,rfl,?_⟩
 show Q (.ref g.objs.size) _
 rw[sz]
 exact q F y (B _ _ D.TOz C) (q1.at λo e=>B _ o D.i1z e) (Z.at λo e=>B _ o D.i2z e) O λc o H G M L e=>B c o H (kp c o H G M L e)
theorem Gd{Q:Fin->Shared->Prop}(y:A.handled=none)(D:ZipApart z ti to' j1 j2 m1 m2)(f:IsZip s.heap z ti to' .none)(wi:IsPair s.heap ti (.ref j1) (.ref j2))(J:IsPair s.heap to' a b)
  (n1:s.heap.IsTupleIter j1 m1 k) (u:s.heap.IsTuple m1 us) (H:us[k]?=none)
  (q:∀ h' e,(∀ c o,c≠z->c≠to'->c≠j1->c≠j2->s.heap.get? c=some o->h'.get? c=some o)->(∃ o,h'.get? e=some o/\o.cls=.type "StopIteration")->E (.ref e) { s with heap:=h' }) :
  wpAny (model prog w) A (Builtin.«zip.__next__» ⟨[.ref z],[]⟩) Q E s:=by
 show wpAny _ _ (field (.ref z) 2 >>= _) _ _ _
 refine wpAny_bind (wpAny_field f rfl (x:=.bool false) rfl ?_)
 show wpAny _ _ (field (.ref z) 3 >>= _) _ _ _
 refine wpAny_bind (wpAny_field f rfl (x:=.ref ti) rfl (wpAny_bind (wpAny_seqItems wi rfl ?_)))
 show wpAny _ _ (Builtin.SmallTypes.ownedTupleIsFree (.ref z) >>= _) _ _ _
 refine wpAny_bind ?_
 unfold Builtin.SmallTypes.ownedTupleIsFree
 refine wpAny_bind (wpAny_field f rfl (x:=.none) rfl (wpAny_pure ?_))
 simp only[if_true]
 refine wpAny_bind (wpAny_rule (wpAny_bind (wpAny_field f rfl (x:=.ref to') rfl (wpAny_bind (wpAny_setField_rec f (by simp) λG g i=>?_)))))
 replace g:IsZip G z ti to' .ellipsis:=g
 refine wpAny_bind ?_
 simp only[List.zipIdx_cons,List.zipIdx_nil,forIn_cons,forIn_nil]
 refine wpAny_bind (wpAny_bind (wpAny_onRaise ?_))
 show wpAny _ _ (Builtin.SmallTypes.nextOf (.ref j1) >>= _) _ _ _
 refine wpAny_bind (OA y (n1.extBut i.extBut D.i1z) (u.extBut i.extBut D.l1z) H λF e r B=>?_)
 obtain⟨v,h,m⟩:=B
 have j:IsZip F z ti to' .ellipsis:=r _ _ D.i1z.symm g
 have ne:e≠z:=λx=>by subst x;rw[j] at h;cases h;simp at m
 exact wpAny_setField_rec j (by simp) λC _ p=>q C e (λc o n _ I _ x=>p.extBut _ _ n (r _ _ I (i.extBut _ _ n x))) ⟨v,p.extBut _ _ ne h,m⟩
theorem Ge{v:Value}{Q:Option Value->Shared->Prop}(D:ZipApart z ti to' j1 j2 m1 m2)(e:IsZip s.heap z ti to' .none)(wi:IsPair s.heap ti (.ref j1) (.ref j2))(g:IsPair s.heap to' a b)
  (n1:s.heap.IsTupleIter j1 m1 k) (i:s.heap.IsTupleIter j2 m2 k) (h:s.heap.IsTuple m1 us) (t2:s.heap.IsTuple m2 vs) (m:us[k]?=some u) (j:vs[k]?=some v)
  (q:∀ h',IsZip h' z ti to' (rawInt s.heap.objs.size)->IsPair h' to' u v->h'.IsTupleIter j1 m1 (k+1)->h'.IsTupleIter j2 m2 (k+1)->IsPair h' s.heap.objs.size u v ->
   (∀ c o,c≠z->c≠to'->c≠j1->c≠j2->s.heap.get? c=some o->h'.get? c=some o)->Q (some (.ref s.heap.objs.size)) { s with heap:=h' }) :
  wpAny (model prog w) A (pyNext (.ref z)) Q E s:=by
 have f:s.TypeIs (.ref z) "zip" := ⟨_,e,rfl⟩
 unfold pyNext
 exact wpAny_bind (wpAny_attempt (wpAny_callSpecial?_slot (name:=Str.ofString "__next__") f F.slot_zip_next
  (wpAny_call_entry F.slot_zip_next f F.entry_zip_next (Gc D e wi g n1 i h t2 m j λh' B y x r p n=>wpAny_pure (q h' B y x r p n)) (F.args_zip_next_1 _))))
theorem Gf{Q:Option Value->Shared->Prop}(n:A.in1.handled=none)(D:ZipApart z ti to' j1 j2 m1 m2)(f:IsZip s.heap z ti to' .none)(wi:IsPair s.heap ti (.ref j1) (.ref j2))(h:IsPair s.heap to' a b)
  (n1:s.heap.IsTupleIter j1 m1 k) (i:s.heap.IsTuple m1 us) (u:us[k]?=none)
  (q:∀ h',(∀ c o,c≠z->c≠to'->c≠j1->c≠j2->s.heap.get? c=some o->h'.get? c=some o)->Q none { s with heap:=h' }):wpAny (model prog w) A (pyNext (.ref z)) Q E s:=by
 have g:s.TypeIs (.ref z) "zip" := ⟨_,f,rfl⟩
 unfold pyNext
 refine wpAny_bind (wpAny_attempt (wpAny_callSpecial?_slot (name:=Str.ofString "__next__") g F.slot_zip_next
  (wpAny_call_entry F.slot_zip_next g F.entry_zip_next (Gd n D f wi h n1 i u λh' e m p=>?_) (F.args_zip_next_1 _))))
 obtain⟨o,j,r⟩:=p
 exact wpAny_bind (wpAny_isInstance (T := "StopIteration") (b:=true) ⟨o,j,r⟩ isSubtype_stop (wpAny_pure (q _ m)))
abbrev zt1(h:Heap)(l:Addr):Heap:=h.push { cls:=.type "tuple_iterator",data:=.fields #[.ref l,.int 0 0] }
abbrev zt3(h:Heap)(l l':Addr):Heap:=(zt1 (zt1 h l) l').push { cls:=.type "tuple",data:=.seq #[.ref h.objs.size,.ref (zt1 h l).objs.size] }
abbrev zt4(h:Heap)(l l':Addr):Heap:=(zt3 h l l').push { cls:=.type "tuple",data:=.seq #[.none,.none] }
abbrev zt5(h:Heap)(l l':Addr):Heap:=(zt4 h l l').push { cls:=.type "zip",data:=.fields #[.none,.bool false,.bool false,.ref (zt1 (zt1 h l) l').objs.size,.ref (zt3 h l l').objs.size] }
theorem Gg(l a:Addr)(us vs:Array Value):Meets (Builtin.«zip.__new__» ⟨[.type "zip",.ref l,.ref a],[]⟩) (λ_ R s=>s.heap.IsTuple l us/\s.heap.IsTuple a vs/\R (.ok (.ret (.ref (zt4 s.heap l a).objs.size))) { s with heap:=zt5 s.heap l a }) :=
 .of_wp λprog w A R s h=>by
  obtain⟨j,g,d,e,f⟩:=s
  obtain⟨m,t2,h⟩:=h
  have i:=sub_zip
  have c:Heap.IsTuple (Shared.heap ⟨j,g,d,e,f⟩) l us:=m
  have b:Heap.IsTuple (Shared.heap ⟨j.push { cls:=.type "tuple_iterator",data:=.fields #[.ref l,.int 0 0] },g,d,e,f⟩) a vs:=Heap.IsTuple.push t2 _
  wp_walk using wpAny_pyIter_tuple c,wpAny_pyIter_tuple b
  exact⟨_,rfl,h⟩
theorem Gh{a:Addr}{us vs:Array Value}(r:s.heap.IsTuple l us)(t2:s.heap.IsTuple a vs)
  (h:∀ h' n,n=s.heap.objs.size->IsZip h' (n+4) (n+2) (n+3) .none->IsPair h' (n+2) (.ref n) (.ref (n+1))->IsPair h' (n+3) .none .none->h'.IsTupleIter n l 0->h'.IsTupleIter (n+1) a 0 ->
   (∀ c o,s.heap.get? c=some o->h'.get? c=some o)->Q (.ref (n+4)) { s with heap:=h' }) :
  wpAny (model prog w) A (call (.type "zip") [.ref l,.ref a]) Q E s:=by
 refine callType_new F.called_zip (by decide) (F.typeCall_zip_2 _ _) (F.newCall_zip_2 _ _) (λg=>F.args_object_init_3 g _ _) F.entry_zip_new (Gg l a us vs) ⟨r,t2,?_⟩
 have f:(zt1 s.heap l).objs.size=s.heap.objs.size+1:=Heap.size_push ..
 have e:(zt1 (zt1 s.heap l) a).objs.size=s.heap.objs.size+2:=by rw[Heap.size_push,f]
 have b:(zt3 s.heap l a).objs.size=s.heap.objs.size+3:=by rw[Heap.size_push,e]
 have j:(zt4 s.heap l a).objs.size=s.heap.objs.size+4:=by rw[Heap.size_push,b]
 have i:(zt5 s.heap l a).get? (zt4 s.heap l a).objs.size=some _:=Heap.get?_push_size _ rfl
 have m:(zt5 s.heap l a).get? (zt3 s.heap l a).objs.size=some _:=Heap.get?_push_of_some _ (Heap.get?_push_size _ rfl)
 have p:(zt5 s.heap l a).get? (zt1 (zt1 s.heap l) a).objs.size=some _:=Heap.get?_push_of_some _ (Heap.get?_push_of_some _ (Heap.get?_push_size _ rfl))
 have q:(zt5 s.heap l a).get? (zt1 s.heap l).objs.size=some _:=Heap.get?_push_of_some _ (Heap.get?_push_of_some _ (Heap.get?_push_of_some _ (Heap.get?_push_size _ rfl)))
 have u:(zt5 s.heap l a).get? s.heap.objs.size=some _:=Heap.get?_push_of_some _ (Heap.get?_push_of_some _ (Heap.get?_push_of_some _ (Heap.get?_push_of_some _ (Heap.get?_push_size _ rfl))))
 show _/\_
 rw[e,b,j] at i
 rw[f,e] at p
 rw[b] at m
 rw[f] at q
 rw[j]
 exact⟨⟨_,i,rfl⟩,h _ _ rfl i p m ⟨_,u,rfl,rfl⟩ ⟨_,q,rfl,rfl⟩ λc o x=>Heap.get?_push_of_some _ (Heap.get?_push_of_some _ (Heap.get?_push_of_some _ (Heap.get?_push_of_some _ (Heap.get?_push_of_some _ x))))⟩
end
theorem Inv.turnL(I:Inv X pins σ H s)(f:∀ b∈ch,Yy X pins H b)(k:∀ b o,b∉ch->s.heap.get? b=some o->h'.get? b=some o):Inv X pins σ H { s with heap:=h',toks:=t' }:=by
 have h:∀ b u,H b=some u->b∉ch:=λb u e z=>by rw[(f b z).1] at e;cases e
 refine I.step (g':=s.gens) (d':=s.drawn) (ch:=ch) (λb p=>?_) (λb o _ _ a e _=>k b o a e) (λb o _ _ a e _=>⟨o.slots,k b o a e⟩) (λ_ _ _ _ n=>n) (λb o a e=>⟨o,k b o a e⟩) (λ_ _ e=>e) (λ_ _ _ e=>e) (λb x e=>⟨#[],by rw[e];simp⟩) (λm j=>?_) (λb u e=>?_) I.bare
 ·have g:=f b p
  exact⟨g.2.2.2.1,g.2.1,g.2.2.2.2.1,g.2.2.2.2.2⟩
 ·obtain⟨o,es,w,i,r⟩:=j
  exact⟨o,es,w,k _ o (λz=>(f _ z).2.1 rfl) i,r⟩
 ·refine (I.hok b u e).stay (λc v a q=>k c v ?_ q) (λ_ q=>q) λ_ _ q=>q
  rcases a with z|z
  ·rw[z];exact h b u e
  ·exact h c _ z
theorem Inv.tupL{xs:List V}(I:Inv X pins σ H s)(f:∀ b∈ch,Yy X pins H b)(k:∀ b o,b∉ch->s.heap.get? b=some o->h'.get? b=some o)
  (x:h'.get? s.heap.objs.size=some { cls:=.type "tuple",data:=.seq us.toArray }) (w:Zm xs us) (hz:xs.length<=sizeLine):Inv X pins σ (upd H s.heap.objs.size (.tup xs)) { s with heap:=h',toks:=t' }:=by
 have y:H s.heap.objs.size=none:=I.hok.fresh (Nat.le_refl _)
 have ne:∀ b o,s.heap.get? b=some o->b≠s.heap.objs.size:=λb o q=>Nat.ne_of_lt (Heap.lt_size q)
 have j:∀ b u,H b=some u->b∉ch:=λb u e z=>by rw[(f b z).1] at e;cases e
 have h:∀ b u,H b=some u->b≠s.heap.objs.size:=λb u q=>Z5 q y
 refine I.step (g':=s.gens) (d':=s.drawn) (ch:=ch) (λb i=>?_) (λb o _ _ a q _=>k b o a q) (λb o _ _ a q _=>⟨o.slots,k b o a q⟩) (λb o _ q n=>by rw[Zn (ne b o q)];exact n) (λb o a q=>⟨o,k b o a q⟩)
  (λb p q=>by rw[Zn (h b _ q)];exact q) (λb o u q=>by rw[Zn (h b _ q)];exact q) (λb E q=>⟨#[],by rw[Zn (h b _ q),q];simp⟩) (λm B=>?_) (λb u q=>?_) I.bare
 ·have g:=f b i
  exact⟨g.2.2.2.1,g.2.1,g.2.2.2.2.1,g.2.2.2.2.2⟩
 ·obtain⟨o,es,C,A,r⟩:=B
  exact⟨o,es,C,k _ o (λz=>(f _ z).2.1 rfl) A,r⟩
 ·by_cases i:b=s.heap.objs.size
  ·subst i
   rw[ZF] at q
   cases q
   exact⟨hz,us,w,⟨_,x,rfl,⟨_,rfl⟩,rfl⟩⟩
  ·rw[Zn i] at q
   refine (I.hok b u q).stay (λc v a r=>?_) (λc r=>by rw[Zn (h c _ r)];exact r) λc p r=>by rw[Zn (h c _ r)];exact r
   rcases a with z|z
   ·rw[z] at r ⊢;exact k _ _ (j b u q) r
   ·exact k _ _ (j c _ z) r
def Itz(K:W.Frag)(a b:Addr)(n:Nat):It :=
  ⟨λi H=>∃ xs ys x y,SqT K H a xs/\SqT K H b ys/\xs.length=n/\ys.length=n/\xs[i]?=some x/\ys[i]?=some y,
   λi H v H'=>∃ p x y,H p=none/\v=.ref p/\H'=upd H p (.tup [x,y])/\(∀ xs,SqT K H a xs->xs[i]?=some x)/\∀ ys,SqT K H b ys->ys[i]?=some y,
   λi H=>∃ xs,SqT K H a xs/\xs.length=n/\n<=i⟩
theorem Gi{x1}(a b n0:Addr)(n:Nat)(la:a<n0)(lb:b<n0):Turn P w K (.Tuple es x1 tp) (Itz K a b n) [n0+4,n0+2,n0+3,n0,n0+1] (n0+4) (λi h=>IsZip h (n0+4) (n0+2) (n0+3) .none/\IsPair h (n0+2) (.ref n0) (.ref (n0+1))/\(∃ c d,IsPair h (n0+3) c d)/\h.IsTupleIter n0 a i/\h.IsTupleIter (n0+1) b i) where
 mem:=by simp
 obj:=λi h p c r=>by
  obtain⟨m,j,⟨_,_,C⟩,⟨o1,B,_,d1⟩,o2,G,_,d2⟩:=p
  simp only[mem_cons,not_mem_nil,or_false] at r
  rcases r with rfl|rfl|rfl|rfl|rfl
  ·exact⟨_,m,λv q=>by cases (show Data.fields _=Data.cell v from q)⟩
  ·exact⟨_,j,λv q=>by cases (show Data.seq _ _=Data.cell v from q)⟩
  ·exact⟨_,C,λv q=>by cases (show Data.seq _ _=Data.cell v from q)⟩
  ·exact⟨_,B,λv q=>by rw[d1] at q;cases q⟩
  ·exact⟨_,G,λv q=>by rw[d2] at q;cases q⟩
 keep:=λi h h' p k=>by
  obtain⟨m,j,⟨c,d,C⟩,B,G⟩:=p
  exact⟨k _ (by simp) _ m,k _ (by simp) _ j,⟨c,d,k _ (by simp) _ C⟩,B.at λo q=>k _ (by simp) o q,G.at λo q=>k _ (by simp) o q⟩
 item:=by
  intro X W T Y r i F s Z H E I O p U
  subst W T Y
  obtain⟨xs,ys,x,y,L,sy,M,S,ex,ey⟩:=U
  obtain⟨m,j,⟨c,d,C⟩,B,G⟩:=p
  obtain⟨us,R,Q,_⟩:=I.tuple L
  obtain⟨vs,rv,tv,_⟩:=I.tuple sy
  obtain⟨u,hu,r1⟩:=R.get ex
  obtain⟨v,hv,r2⟩:=rv.get ey
  have D:ZipApart (n0+4) (n0+2) (n0+3) n0 (n0+1) a b:=zipApart_new la lb
  refine Ge D m j C B G Q tv (by simpa using hu) (by simpa using hv) λh' b1 b2 b3 b4 b5 N=>?_
  refine⟨_,rfl,wpAny_letOwnedTupleGo_zip b1 λh2 w1 J=>?_⟩
  have ne:∀ {c o},s.heap.get? c=some o->c≠s.heap.objs.size:=λe=>Nat.ne_of_lt (Heap.lt_size e)
  have ht:h2.get? s.heap.objs.size=some { cls:=.type "tuple",data:=.seq #[u,v] }:=(J.2 _ (ne m).symm).trans b5
  have I1:Inv X F Z (upd H s.heap.objs.size (.tup [x,y])) { s with heap:=h2,toks:=s.toks }:=I.tupL O (λb o f e=>(J.2 b λz=>f (by simp[z])).trans (N b o (λz=>f (by simp[z])) (λz=>f (by simp[z])) (λz=>f (by simp[z])) (λz=>f (by simp[z])) e)) (us:=[u,v]) ht (.cons r1 (.cons r2 .nil)) (by show 2<=sizeLine;decide)
  refine⟨.ref s.heap.objs.size,_,I1,rfl,⟨s.heap.objs.size,x,y,I.hok.fresh (Nat.le_refl _),rfl,rfl,λzs hz=>by rw[I.tuple_inj hz L];exact ex,λzs hz=>by rw[I.tuple_inj hz sy];exact ey⟩,?_,?_⟩
  ·have M:n0+2≠n0+4:=by simp
   have S:n0+3≠n0+4:=by simp
   have l3:n0≠n0+4:=Nat.ne_of_lt (Nat.lt_add_of_pos_right (by decide))
   have l4:n0+1≠n0+4:=by simp
   exact⟨w1,(J.2 _ M).trans (N _ _ M (by simp) (Nat.ne_of_gt (Nat.lt_add_of_pos_right (by decide))) (by simp) j),⟨u,v,(J.2 _ S).trans b2⟩,b3.at λo e=>(J.2 _ l3).trans e,b4.at λo e=>(J.2 _ l4).trans e⟩
  ·intro c r
   have g:c≠s.heap.objs.size:=by
    simp only[mem_cons,not_mem_nil,or_false] at r
    rcases r with rfl|rfl|rfl|rfl|rfl
    ·exact ne m
    ·exact ne j
    ·exact ne C
    ·obtain⟨_,e,_⟩:=B;exact ne e
    ·obtain⟨_,e,_⟩:=G;exact ne e
   rw[Zn g]
   exact (O c r).1
 done:=by
  intro X W T Y r i F s Z H E I O p U
  subst W T Y
  obtain⟨xs,L,M,S⟩:=U
  obtain⟨m,j,⟨c,d,C⟩,B,G⟩:=p
  obtain⟨us,R,Q,_⟩:=I.tuple L
  have D:ZipApart (n0+4) (n0+2) (n0+3) n0 (n0+1) a b:=zipApart_new la lb
  refine Gf (A:=X.A) (I.ok.hd r) D m j C B Q (Array.getElem?_eq_none (by rw[size_toArray,<- R.length];omega)) λh' N=>⟨rfl,I.turnL (t':=s.toks) O λb o f e=>N b o (λz=>f (by simp[z])) (λz=>f (by simp[z])) (λz=>f (by simp[z])) (λz=>f (by simp[z])) e⟩
 self:=λ_ _ _ _ _ p h=>wpAny_pyIter_zip p.1 h
def O0(K:W.Frag)(ta:TA):TI:=λσ H R=>ta σ H λvs H1=>∃ a b xs ys,vs=[.ref a,.ref b]/\SqT K H1 a xs/\SqT K H1 b ys/\xs.length=ys.length/\R (Itz K a b xs.length) H1
theorem Gj{a b:Expr}{x1}{p:Pos}(hK:X.K=K)(Q:Gl X "zip")(P:X.mg "zip" = none)(U:PA X [a,b] ta)(N:starEach [a,b] X.env=(false,eval a X.env)::starEach [b] X.env:=by rfl)(O:(backTo pos (starEach [b] X.env)).any (·.1)=false:=by rfl) :
  PI X (.Tuple es x1 tp) (.Call (.Name "zip" p) [a,b] [] pos) (O0 K ta):=by
 subst hK
 intro f s m H R I h
 refine Call_ (WQ I Q P PyProof.Rows.boot_zip (PyProof.Rows.callWith_type1 (thn (U pos f s m H _ I h) λus g W=>?_) N O))
 obtain⟨vs,y,j,M,c,d,xs,Z,e,G,F,hl,q⟩:=W
 subst e
 obtain⟨u,v,rfl,L,J⟩:=M.two
 cases (show u=Value.ref c from L)
 cases (show v=Value.ref d from J)
 obtain⟨_,_,x,_⟩:=j.tuple G
 obtain⟨_,_,w,_⟩:=j.tuple F
 have T:c<g.heap.objs.size:=by obtain⟨o,e,_⟩:=id x;exact Heap.lt_size e
 have S:d<g.heap.objs.size:=by obtain⟨o,e,_⟩:=id w;exact Heap.lt_size e
 refine Gh x w λh' n en r E C B A k=>wpAny_pyIter_zip r ?_
 subst en
 have Y:Inv X f m y { g with heap:=h' }:=j.kept (t':=g.toks) k
 refine⟨_,_,_,Itz X.K c d xs.length,y,rfl,Y,Gi c d g.heap.objs.size xs.length T S,⟨r,E,⟨_,_,C⟩,B,A⟩,λb i=>?_,q⟩
 have i:g.heap.objs.size<=b:=by
  simp only[mem_cons,not_mem_nil,or_false] at i
  rcases i with rfl|rfl|rfl|rfl|rfl
  ·exact Nat.le_add_right ..
  ·exact Nat.le_add_right ..
  ·exact Nat.le_add_right ..
  ·exact Nat.le_refl _
  ·exact Nat.le_add_right ..
 exact j.fpOk i (j.hok.fresh i)
variable [Tabs]
section
variable{E:FK}{X:Exc->Sl->Prop}{Q:TV->Prop}{a b:TV}
theorem Reps.ints_inv{H:Hp}:∀ {ns:List Int} {xs:List V},Reps K H xs (ns.map PyData.int)->xs=ns.map V.int
 | [],_,.nil=>rfl
 | n::ns,_,.cons r rs=>by rw[r.int_inv,Reps.ints_inv rs];rfl
def O1(H1:Hp)(K:W.Frag)(J:It)(u:V)(z:PyData)(n:Nat)(f:Nat->PyData):Prop :=
 ∀ G H,Zf H1 H->Zf G H->Rep K G u z->(∀ i,i<n->J.go i H/\∀ x H',J.yld i H x H'->Zf H H'/\∀ G',Zf G G'->(∀ b o,H' b=some o->H b=none->G' b=some o)->Rep K G' x (f i))/\∀ i,n<=i->J.stop i H
theorem SR.turnF{σ:L2.St}{u:V}{f:Nat->PyData}(s:SR K H0 σ ρ (u::ts) (.av (.d z)::as) H)(ok:O1 H0 K J u z n f)(hi:i<n):J.go i H/\∀ x H',J.yld i H x H'->SR K H0 σ ρ (x::u::ts) (.av (.d (f i))::.av (.d z)::as) H':=by
 have A:=s
 obtain⟨⟨p,q,j,h,G,F⟩,e⟩:=s
 have E:=SR.lsts j h
 cases h with
 | @cons _ _ _ _ Q P _ r rs eq =>
 cases r with
 | av r =>
 cases r with
 | d g w =>
  obtain⟨M,_⟩:=ok _ H e Ym g
  obtain⟨L,I⟩:=M i hi
  refine⟨L,λx H' y=>?_⟩
  obtain⟨a,N⟩:=I x H' y
  have v:=A.ext a
  obtain⟨⟨p',q',U,T,S,R⟩,O⟩:=v
  have m:Zf (hid H p q) (hid H' p q):=W0 a
  refine⟨⟨p,q,j.mono m (λb o _=>a b o),.cons (.av (.d (p:=λ_=>0) (N (hid H' p q) m λb o C B=>?_) λ_=>rfl)) (.cons (.av (.d (g.same m) w)) (rs.mono m a) eq) (λb=>by simp),G,F⟩,O⟩
  unfold hid
  rw[if_pos]
  ·exact C
  ·rcases Nat.eq_zero_or_pos (p b+q b) with c|c
   ·exact c
   ·obtain⟨_,c,_⟩:=E b c;rw[B] at c;cases c
theorem Gk{cap:List (Option Nat)}{A:TA}(h:Ea K E X A ρ λbs=>∃ (a b:TV) (xs:List α) (e:α->PyData) (ns:List Int) (y:Nat->AV),bs=[a,b]/\a.data=.tuple (xs.map e)/\b.data=.tuple (ns.map .int)/\NR a/\NR b/\xs.length=ns.length/\xs.length<=1000000 /\
  (∀ i (hi:i<xs.length) (u:i<ns.length),Gv K g (.tuple [e xs[i],.int ns[i]]) (ZC cap ρ) λB=>Wk B (ZC cap ρ)/\Ev K E NE te B λa=>a.sto=some (y i))/\∃ a,Got (.own ((List.range xs.length).map y)) a/\Q a):Ev K E X (Xm cap (O0 K A) g WY te) ρ Q:=λH0 R ts as H QV s x k =>
 h H0 R ts as H _ s x λbs ⟨a,b,xs,e,ns,y,eb,ea,ebd,na,nb,hl,hz,turn,fin⟩ vs H1 j hlen=>by
  subst eb
  obtain⟨v,w,rfl,j⟩:=JI j hlen
  have n:=j.top na
  have T:=j.pop.top nb
  rw[ea] at n
  rw[ebd] at T
  obtain⟨l,us,rfl,h1,h2⟩:=n.tuple_inv
  obtain⟨m,ws,rfl,W,h4⟩:=T.tuple_inv
  have ew:=Reps.ints_inv h4
  subst ew
  have U:us.length=xs.length:=by have:=h2.length;rwa [length_map] at this
  refine⟨l,m,us,ns.map V.int,rfl,h1,W,by rw[U,length_map,hl],?_⟩
  rw[U]
  intro D N
  have ok:O1 H1 K (Itz K l m xs.length) (.ref l) (.tuple (xs.map e)) xs.length λi=>.tuple [(xs.map e).getD i .none,.int (ns.getD i 0)]:=by
   intro G H2 M sm rp
   obtain⟨l',I,e',g3,g4⟩:=rp.tuple_inv
   cases e'
   have O:=sm.tupS g3
   have g6:=M.tupS W
   have Y:I.length=xs.length:=by have:=g4.length;rwa [length_map] at this
   refine⟨λi hi=>?_,λi hi=>⟨I,O,Y,hi⟩⟩
   obtain⟨w,Z,g8⟩:=g4.get (i:=i) (d:=(xs.map e).getD i .none) (by rw[getD_eq_getElem?_getD,getElem?_eq_getElem (by rw[length_map];exact hi)];rfl)
   have u:i<ns.length:=by omega
   have g9:(ns.map V.int)[i]?=some (.int (ns.getD i 0)):=by rw[getElem?_map,getElem?_eq_getElem u,getD_eq_getElem?_getD,getElem?_eq_getElem u];rfl
   refine⟨⟨I,ns.map V.int,w,_,O,g6,Y,by rw[length_map,hl],Z,g9⟩,λx F ⟨p,x0,y0,hp,e1,P,L,J⟩=>?_⟩
   subst e1 P
   have L:=L I O
   have J:=J _ g6
   rw[Z] at L
   rw[g9] at J
   cases L
   cases J
   exact⟨YQ hp,λG' m k=>.tup (k p _ ZF hp) (.cons (g8.same m) (.cons (.int _) .nil))⟩
  have xo:XOk K E NE H1:=XOk.ne (x.t.same j.same)
  have sD:Zf H1 (upd H1 D (.lst [])):=YQ N
  have st:Stb [TV.av (.d (.tuple (xs.map e)))]:=Stb.cons Stb.nil
  have start:SR K H1 (Yf cap R) (ZC cap ρ) [.ref D,.ref l] [.av (.own []),.av (.d (.tuple (xs.map e)))] (upd H1 D (.lst [])):=by
   have m:Zf H1 (hid (upd H1 D (.lst [])) (λ_=>0) λb=>if b=D then 1 else 0):=λb o e=>by
    have C:b≠D:=Z5 e N
    unfold hid
    simp[C]
    rw[Zn C]
    exact e
   have n:=j.top na
   rw[ea] at n
   refine⟨⟨λ_=>0,λb=>if b=D then 1 else 0,RSl.cap j m cap,.cons (.av (.own ZF (.nil (p:=λ_=>0) λ_=>rfl) (q:=λb=>if b=D then 1 else 0) λb=>by simp)) (.cons (.av (.d (p:=λ_=>0) (n.same m) λ_=>rfl)) (.nil (p:=λ_=>0) λ_=>rfl) (r:=λ_=>0) λb=>by simp) (λb=>by simp),λb=>by simp;split<;>omega,λb z=>?_⟩,sD⟩
   by_cases C:b=D
   ·rw[C];exact N
   ·simp[C] at z
  refine⟨λi m c F=>m=xs.length-i/\i<=xs.length/\SR K H1 c (ZC cap ρ) [.ref D,.ref l] [.av (.own ((List.range i).map y)),.av (.d (.tuple (xs.map e)))] F,⟨xs.length,by simp,Nat.zero_le _,start⟩,?_⟩
  rintro i m σ2 H2 ⟨rfl,hi,s2⟩
  by_cases f:i<xs.length
  ·obtain⟨g1,g2⟩:=s2.swap.turnF ok f
   refine .inr ⟨g1,λc F=>SR K H1 c (ZC cap ρ) [.ref D,.ref l] [.av (.own ((List.range (i+1)).map y)),.av (.d (.tuple (xs.map e)))] F,λc F p=>⟨xs.length-(i+1),by omega,rfl,f,p⟩,λw H3 hw=>?_⟩
   have S:=g2 w H3 hw
   have u:i<ns.length:=by omega
   have ef:(PyData.tuple [(xs.map e).getD i .none,.int (ns.getD i 0)])=.tuple [e xs[i],.int ns[i]]:=by
    rw[VM f,getD_eq_getElem?_getD,getElem?_eq_getElem u];rfl
   rw[ef] at S
   refine turn i f u H1 σ2 _ _ H3 w _ S λρ4 ⟨wk,ev⟩ σ4 H4 s4=>?_
   unfold WY
   dsimp only
   rw[if_pos rfl]
   refine ev H1 σ4 _ _ H4 _ s4 xo λa P z H6 s6=>?_
   have s7:=(s6.sto P)
   have s8:SR K H1 σ4 ρ4 [z,.ref D,.ref l] [.av (y i),.av (.own ((List.range i).map y)),.av (.d (.tuple (xs.map e)))] H6:=by
    obtain⟨⟨p,q,k1,k2,k3,k4⟩,e⟩:=s7
    refine⟨⟨p,q,k1,?_,k3,k4⟩,e⟩
    cases k2 with
    | cons r rs eq=>exact .cons r rs.swap eq
   obtain⟨vs,f1,f2,f3⟩:=s8.snocT st
   refine⟨vs,f1,small6 ?_,?_⟩
   ·rw[f2,length_map,length_range];omega
   rw[range_succ,map_append]
   exact wk _ _ _ _ _ _ f3
  ·have e0:i=xs.length:=by omega
   subst e0
   obtain⟨a,hg,q⟩:=fin
   have n:=s2.swap.top NR.av
   exact .inl ⟨(ok _ _ s2.same (.refl _) n).2 _ (Nat.le_refl _),k _ q _ _ (j.pop.pop.gotG s2.rs hg)⟩
end
def byT(w:World):Bool:=w.params.followText "set-order"
abbrev sK(P:Program)(w:World):PySem.KeyKind P w Str:=PySem.strKind P w
def Ye(P:Program)(w:World)(h:Heap)(a:Addr)(zs:List Str):Prop :=
 ∃ o es ep t,h.get? a=some o/\o.ExactSet/\o.data=.set es ep t/\ElemsOf (sK P w) es.toList/\StrsAre (es.toList.map Prod.snd) zs/\zs.Nodup/\es.size<scanBound/\t.fits es.size=true/\t.led=(!byT w)/\(es.size≠0->t.plain=false)
theorem Tz:∀ {b vs:List Value} {zs:List Str},b.Perm vs->StrsAre vs zs->∃ a,StrsAre b a/\a.Perm zs:=by
 intro b vs zs p
 induction p generalizing zs with
 | nil=>intro h;exact⟨zs,h,.refl _⟩
 | cons x _ i =>
  intro h
  cases h with
  | cons y t h =>
   obtain⟨a,m,j⟩:=i h
   exact⟨_,.cons y t m,j.cons _⟩
 | swap x y l =>
  intro h
  cases h with
  | cons y t h =>
   cases h with
   | cons g t' h=>exact⟨_,.cons g t' (.cons y t h),.swap _ _ _⟩
 | trans _ _ e c =>
  intro h
  obtain⟨u,s,r⟩:=c h
  obtain⟨f,q,n⟩:=e s
  exact⟨f,q,n.trans r⟩
theorem O2:∀ {vs us:List Value} {zs ys:List Str},StrsAre vs zs->StrsAre us ys->StrsAre (vs++us) (zs++ys)
 | _,_,_,_,.nil,h=>h
 | _,_,_,_,.cons y t h,g=>.cons y t (O2 h g)
theorem XY:∀ {vs:List Value} {zs:List Str},StrsAre vs zs->vs.length=zs.length
 | _,_,.nil=>rfl
 | _,_,.cons _ _ h=>congrArg (· + 1) (XY h)
theorem RP{P:Program}{w:World}{z:Str}:∀ {es:List (Int×Value)} {zs:List Str},StrsAre (es.map Prod.snd) zs->(z∈zs↔∃ e∈es,(sK P w).is z e.2=true)
 | [],_,.nil=>by simp
 | e::es,zs,h=>by
  obtain⟨c,v⟩:=e
  rw[map_cons] at h
  cases h with
  | cons y t h =>
   have b:=RP (P:=P) (w:=w) (z:=z) h
   rw[mem_cons,b]
   constructor
   ·rintro (rfl|⟨e,a,q⟩)
    ·exact⟨_,.head _,strKind_is P w _ _⟩
    ·exact⟨e,.tail _ a,q⟩
   ·rintro⟨e,a,q⟩
    rcases mem_cons.mp a with rfl|a
    ·exact .inl ((sK P w).inj _ _ _ q (strKind_is P w _ _))
    ·exact .inr ⟨e,a,q⟩
theorem Gm(t:SetTable)(n:Nat):(t.orStandIn n).led=t.led/\((t.orStandIn n).plain=true->t.plain=true):=by
 unfold SetTable.orStandIn
 split
 ·exact⟨rfl,id⟩
 ·exact⟨rfl,λh=>by cases h⟩
theorem Gn(t:SetTable)(es:Array (Int×Value))(h:Int)(x:Value):(layNew t es h x).2.1.led=t.led:=by
 unfold layNew
 split
 ·exact (Gm _ _).1
 ·rfl
theorem Go{t t':SetTable}{a:Array Int}{o:Array Nat}(e:t.relaid a n=some (t',o)):t'.led=t.led/\t'.plain=t.plain:=by
 unfold SetTable.relaid SetTable.laid at e
 simp only[Option.bind_eq_bind,Option.bind_eq_some_iff] at e
 obtain⟨b,_,e⟩:=e
 cases e
 exact⟨rfl,rfl⟩
theorem Gp(t:SetTable)(es:Array (Int×Value))(n:Nat):(relayAll t es n).2.1.led=t.led/\(t.plain=false->(relayAll t es n).2.1.plain=false):=by
 unfold relayAll
 split
 ·rename_i t' o e
  obtain⟨b,a⟩:=Go e
  dsimp only
  split
  ·exact⟨b,λh=>by rw[<- h];exact a⟩
  ·exact⟨rfl,λ_=>rfl⟩
 ·exact⟨rfl,λ_=>rfl⟩
variable{ep:Nat}{zs:List Str}
theorem O3{o:Obj}{es:Array (Int×Value)}{t:SetTable}(m:h.get? a=some o)(f:o.ExactSet)(hd:o.data=.set es ep t)
  {b:Array (Int×Value)} {t':SetTable}  (g:ElemsOf (sK P w) b.toList) (c:StrsAre (b.toList.map Prod.snd) zs) (e:zs.Nodup) (hb:b.size<scanBound) (n:t'.fits b.size=true) (hl:t'.led=(!byT w)) (j:t'.plain=false) :
  (h.update a (Obj.putSet b t')).get? a=some { o with data:=.set b (ep+1) t' }/\Ye P w (h.update a (Obj.putSet b t')) a zs:=by
 have i:(h.update a (Obj.putSet b t')).get? a=some { o with data:=.set b (ep+1) t' }:=by
  have:=Heap.get?_update_self (Obj.putSet b t') m (by rw[putSet_of b t' hd];rfl)
  rw[putSet_of b t' hd] at this;exact this
 exact⟨i,_,b,ep+1,t',i,f,rfl,g,c,e,hb,n,hl,λ_=>j⟩
theorem O4{g:Bool->Sem Unit}(O:∀ (b:Bool) (s₁:Shared) (N:Unit->Shared->Prop),N () s₁->wpAny (model P w) A (g b) N E s₁)
   {o:Obj} {es:Array (Int×Value)}  {t:SetTable} (M:s.heap.get? a=some o) (C:o.ExactSet) (hd:o.data=.set es ep t)
  {c:Array (Int×Value)} {t2:SetTable}  (i:ElemsOf (sK P w) c.toList) (x:StrsAre (c.toList.map Prod.snd) zs) (B:zs.Nodup)
  (q:c.size<scanBound) (H:t2.fits c.size=true) (hl:t2.led=(!byT w)) (L:t2.plain=false) {wasDummy:Bool} {R:Option Bool->Shared->Prop}
  (h:∀ h' j,Heap.SameBut a s.heap h'->Ye P w h' a j->j.Perm zs->R (some true) { s with heap:=h' }) :
  wpAny (model P w) A (do
    storeSet a c t2
    if (!wasDummy && t2.tooFull)=true then do
      g (relayAll t2 c (SetTable.grown c.size)).2.2
      storeSet a (relayAll t2 c (SetTable.grown c.size)).1 (relayAll t2 c (SetTable.grown c.size)).2.1
      pure (some true)
     else pure (some true)) R E s:=by
 refine wpAny_bind (wpAny_storeSet_of M hd ?_ (fits_of_scanBound q))
 obtain⟨y,J⟩:=O3 (P:=P) (w:=w) M C hd i x B q H hl L
 have f:=Heap.SameBut.update s.heap a (Obj.putSet c t2)
 split
 ·have e:=relayAll_perm t2 c (SetTable.grown c.size)
  have p:=relayAll_fits t2 c (SetTable.grown c.size)
  obtain⟨n,m⟩:=Gp t2 c (SetTable.grown c.size)
  generalize Q:relayAll t2 c (SetTable.grown c.size)=S at e p n m ⊢
  obtain⟨r,T,K⟩:=S
  dsimp only at e p n m ⊢
  have F:ElemsOf (sK P w) r.toList:=i.perm e
  obtain⟨j,v,u⟩:=Tz (e.map Prod.snd) x
  have hsz:r.size=c.size:=by rw[<- Array.length_toList,e.length_eq,Array.length_toList]
  have G:r.size<scanBound:=by rw[hsz];exact q
  refine wpAny_bind (O _ _ _ ?_)
  refine wpAny_bind (wpAny_storeSet_of y rfl ?_ (fits_of_scanBound G))
  obtain⟨_,I⟩:=O3 (P:=P) (w:=w) y C rfl F v (u.nodup_iff.mpr B) G p (n.trans hl) (m L)
  exact wpAny_pure (h _ _ (f.trans (Heap.SameBut.update _ a _)) I u)
 ·exact wpAny_pure (h _ _ f J (.refl _))
theorem Gq{z:Str}{tk:Tok}{Q:Bool->Shared->Prop}(hS:Ye P w s.heap a zs)(K:zs.length+1<scanBound)
  (h:∀ h' f b,Heap.SameBut a s.heap h'->Ye P w h' a f->(∀ y,y∈f↔y∈zs\/y=z)->f.length<=zs.length+1->Q b { s with heap:=h' }) :
  wpAny (model P w) A (setAddHashed a (.str z tk) ((sK P w).hash z)) Q E s:=by
 obtain⟨o,es,ep,t,R,M,U,u,n,S,Y,hf,hl,hp⟩:=hS
 have T:es.size=zs.length:=by have:=XY n;rwa [length_map,Array.length_toList] at this
 have C:=strKind_is P w z tk
 have J:(Value.str z tk).scannable=true:=rfl
 have hb1:es.size+1<scanBound:=by rw[T];exact K
 unfold setAddHashed setAddHashedIn
 refine wpAny_holding (wpAny_bind (wpAny_setState_of R U hf ?_))
 dsimp only
 rw[byScan_of J Y u]
 simp only[↓reduceIte]
 unfold setAddByScan
 refine wpAny_bind ?_
 refine wpAny_bind (wpAny_rule ?_)
 refine wpAny_bind (wpAny_setScan_of C R U hf u ?_)
 cases hr:List.findIdx? (λe=>(sK P w).is z e.2) es.toList with
 | some j =>
  dsimp only
  obtain⟨hj,Z,_⟩:=List.findIdx?_eq_some_iff_getElem.mp hr
  have hz:z∈zs:=(RP n).mpr ⟨es.toList[j],getElem_mem hj,Z⟩
  refine wpAny_pure (wpAny_pure ?_)
  have e:s={ s with heap:=s.heap }:=by cases s;rfl
  rw[e]
  exact h s.heap zs _ (Heap.SameBut.refl a s.heap) ⟨o,es,ep,t,R,M,U,u,n,S,Y,hf,hl,hp⟩ (λy=>⟨.inl,λq=>q.elim id λe=>e▸hz⟩) (Nat.le_succ _)
 | none =>
  dsimp only
  have hz:z∉zs:=λq=>by
   obtain⟨e,he,hpe⟩:=(RP (P:=P) (w:=w) n).mp q
   have:=List.findIdx?_eq_none_iff.mp hr e he
   rw[hpe] at this;exact Bool.noConfusion this
  have hgw:∀ (b:Bool) {s₁:Shared} {X:Unit->Shared->Prop},X () s₁->wpAny (model P w) A (match b with|true=>rule "set.scan.the-table-gave-way" | false=>pure ()) X E s₁ :=
   λb s₁ X x=>by cases b<;>first|exact wpAny_pure x|exact wpAny_rule x
  have c:=layNew_perm t es ((sK P w).hash z) (.str z tk)
  have g:=layNew_fits t es ((sK P w).hash z) (.str z tk)
  have i:=Gn t es ((sK P w).hash z) (.str z tk)
  generalize hL:layNew t es ((sK P w).hash z) (.str z tk)=L at c g i ⊢
  obtain⟨W,t1,wasDummy,gave⟩:=L
  dsimp only at c g i ⊢
  rw[Array.toList_push] at c
  have G:ElemsOf (sK P w) W.toList:=(u.push C J).perm c
  have O:StrsAre ((es.toList++[((sK P w).hash z,Value.str z tk)]).map Prod.snd) (zs++[z]):=by rw[map_append];exact O2 n (.cons z tk .nil)
  obtain⟨N,v,I⟩:=Tz (c.map Prod.snd) O
  have B:N.Nodup:=I.nodup_iff.mpr (by rw[List.nodup_append];exact⟨S,by simp,λa ha b Y e=>hz (by rw[mem_singleton.mp Y] at e;exact e▸ha)⟩)
  have H:W.size<scanBound:=by rw[<- Array.length_toList,c.length_eq,List.length_append,Array.length_toList];simpa using hb1
  have F:∀ h' f,Heap.SameBut a s.heap h'->Ye P w h' a f->f.Perm N->Q true { s with heap:=h' }:=λh' f p r m =>
   h h' f true p r (λy=>by rw[(m.trans I).mem_iff];simp) (by rw[(m.trans I).length_eq,List.length_append];exact Nat.le_refl _)
  refine wpAny_bind (hgw _ ?_)
  split
  ·refine wpAny_bind ?_
   rw[hashByValue_scannable 8 J]
   refine wpAny_pure ?_
   refine O4 (t2:={ t1 with plain:=false }) ?_ R M U G v B H (SetTable.fits_plain_off g) (i.trans hl) rfl ?_
   ·intro b s₁ X x;cases b<;>first|exact wpAny_pure x|exact wpAny_rule x
   ·intro h' f p r m;dsimp only;exact wpAny_pure (F h' f p r m)
  ·rename_i hpl
   refine wpAny_bind (wpAny_pure ?_)
   simp only[↓reduceIte]
   refine O4 ?_ R M U G v B H g (i.trans hl) (by simpa using hpl) ?_
   ·intro b s₁ X x;cases b<;>first|exact wpAny_pure x|exact wpAny_rule x
   ·intro h' f p r m;dsimp only;exact wpAny_pure (F h' f p r m)
theorem O5(a:Value){Q₁:Value->Shared->Prop}
  (h:Q₁ (.ref s.heap.objs.size) { s with heap:=s.heap.push { cls:=.type "set",dict:=none,data:=.set #[] 0 (.fresh 0 0 (!byT w)) } }) :
  codeAny (model P w) A (.call (.builtin "set.__new__") ⟨[.type "set",a],[]⟩) (wants Q₁ E) s:=by
 refine codeAny_of_tree ?_
 show wpAny _ A.in1 (do checkBuiltinCall "set.__new__" ⟨[.type "set",a],[]⟩;again (.builtin "set.__new__" ⟨[.type "set",a],[]⟩)) _ _ s
 refine wpAny_bind (wpAny_of_eq (PySem.F.newCall_set_1 a) (wpAny_pure ⟨plainId_quiet PySem.F.plain_set_new _,codeAny_builtin PySem.F.entry_set_new ?_⟩))
 rw[Around.under_plainId PySem.F.plain_set_new _]
 unfold Builtin.«set.__new__» Builtin.Frozenset.newClass
 have b:=sub_set_self
 obtain⟨f,g,d,c,e⟩:=s
 dsimp only
 wp_walk
 refine wpAny_askSetting (wpAny_pure ?_)
 dsimp only
 simp only[newObj]
 refine wpAny_bind (wpAny_alloc (wpAny_pure ?_))
 exact wpAny_pure h
section
variable{I:Addr}{wr:List Addr}{G:Array GenState->Array GenState->Prop}{Pv:Nat->Value->Prop}{St:Nat->Shared->Prop}
theorem Ye.moved(e:Ye P w h a zs)(k:∀ o,h.get? a=some o->h'.get? a=some o):Ye P w h' a zs:=by
 obtain⟨o,es,f,t,c,b⟩:=e
 exact⟨o,es,f,t,k o c,b⟩
theorem O6(W:WalksS P w A.in1 I fp wr G n Pv St)(S:Addr)(E:S∉fp)(val:Nat->Str)(p:∀ i v,Pv i v->∃ t,v=.str (val i) t)(hb:n+1<scanBound) :
  ∀ (k i:Nat) (s:Shared) (zs:List Str),n-i=k->i<=n->St i s->Ye P w s.heap S zs->zs.length<=i->(∀ y,y∈zs↔∃ j,j<i/\y=val j) ->
   (∀ s' a,Moved (S::wr) G s s'->Ye P w s'.heap S a->(∀ y,y∈a↔∃ j,j<n/\y=val j)->a.length<=n->R (.ok (.ret .none)) s') ->
   codeAny (model P w) A (.builtin "set.update.loop" ⟨[.ref S,.ref I],[]⟩) R s:=by
 have C:S∉wr:=λh=>E (W.sub _ h)
 have f:∀ b∈wr,b∈S::wr:=λb hb=>mem_cons_of_mem _ hb
 intro k
 induction k with
 | zero =>
  intro i s zs hk hi g T X L U
  have N:i=n:=by omega
  subst N
  refine codeAny_builtin PyProof.Rows.F.entry_set_update_loop ?_
  rw[Around.under_plainId PyProof.Rows.F.plain_set_update_loop _]
  show wpAny _ A.in1 (pyNext (.ref I) >>= _) _ _ s
  refine wpAny_bind (W.done s _ _ g λs' c=>?_)
  show wpAny _ A.in1 (ret Value.none) _ _ s'
  exact wpAny_pure (U s' zs (c.mono f) (T.moved λo e=>c.heap S _ C e) L X)
 | succ k Y =>
  intro i s zs hk hi g T X L U
  have B:i<n:=by omega
  refine codeAny_builtin PyProof.Rows.F.entry_set_update_loop ?_
  rw[Around.under_plainId PyProof.Rows.F.plain_set_update_loop _]
  show wpAny _ A.in1 (pyNext (.ref I) >>= _) _ _ s
  refine wpAny_bind (W.item i s _ _ B g λv s' hP r c=>?_)
  obtain⟨t,rfl⟩:=p i v hP
  have Q:Ye P w s'.heap S zs:=T.moved λo e=>c.heap S _ C e
  show wpAny _ A.in1 (holding [Value.str (val i) t] (setAdd S (.str (val i) t)) >>= _) _ _ s'
  refine wpAny_bind (wpAny_holding ?_)
  unfold setAdd
  refine wpAny_holding ?_
  refine wpAny_bind ((sK P w).pyHash (k:=val i) (strKind_is P w _ _) ?_)
  refine Gq (s:={ s' with toks:=s'.toks+1 }) Q (by omega) λh' a b u O K Z=>?_
  refine wpAny_pure ⟨plainId_quiet PyProof.Rows.F.plain_set_update_loop _,Y (i+1) _ a (by omega) B (W.frame _ s' _ _ r (Nat.le_succ _) λb hb o e=>?_) O (by omega) (λy=>?_) λH m x F J M=>?_⟩
  ·rw[u.2 b (λh:b=S=>E (by rw[<- h];exact hb))];exact e
  ·rw[K,L]
   constructor
   ·rintro (⟨j,hj,e⟩|e)
    ·exact⟨j,by omega,e⟩
    ·exact⟨i,by omega,e⟩
   ·rintro⟨j,hj,e⟩
    by_cases q:j=i
    ·subst q;exact .inr e
    ·exact .inl ⟨j,by omega,e⟩
  ·refine U H m (Moved.trans W.gtrans ((c.mono f).then_heap (Nat.le_succ _) λb o hb e=>?_) x) F J M
   rw[u.2 b (λh:b=S=>hb (by rw[h];exact mem_cons_self))];exact e
end
theorem RQ:∀ {vs:List Value} {ns:List Str},StrsAre vs ns->∀ (i:Nat) (v:Value),vs[i]?=some v->∃ t,v=.str (ns.getD i Str.empty) t
 | _,_,.nil,i,v,h=>by simp at h
 | _,_,.cons n t hr,0,v,h=>by simp at h;exact⟨t,by rw[<- h];rfl⟩
 | _,_,.cons n t hr,i+1,v,h=>by
  simp only[List.getElem?_cons_succ] at h
  obtain⟨t',e⟩:=RQ hr i v h
  exact⟨t',by rw[e];rfl⟩
theorem Gr{items:Array Value}{ns:List Str}
  (hh:A.handled=none) (hl:s.heap.IsList l items) (hi:StrsAre items.toList ns) (hb:items.size+1<scanBound)
  (h:∀ (h':Heap) (tk:Nat) (zs:List Str),Ye P w h' s.heap.objs.size zs->(∀ y,y∈zs↔y∈ns)->zs.length<=ns.length ->
   (∀ b o,b<s.heap.objs.size->s.heap.get? b=some o->h'.get? b=some o)->Q (.ref s.heap.objs.size) { s with heap:=h',toks:=tk }) :
  wpAny (model P w) A (call (.type "set") [.ref l]) Q E s:=by
 have hlen:items.size=ns.length:=by have:=XY hi;rwa [Array.length_toList] at this
 have B:∀ y,(∃ j,j<items.size/\y=ns.getD j Str.empty)↔y∈ns:=λy=>by
  constructor
  ·rintro⟨j,hj,rfl⟩
   rw[getD_eq_getElem?_getD,getElem?_eq_getElem (by omega)]
   exact getElem_mem _
  ·intro hy
   obtain⟨j,hj,rfl⟩:=List.getElem_of_mem hy
   exact⟨j,by omega,by rw[getD_eq_getElem?_getD,getElem?_eq_getElem hj];rfl⟩
 obtain⟨c,tl,hmro⟩:=PySem.F.called_set.mro
 have T:=PySem.F.called_set.made
 have hsub:=PySem.F.called_set.sub
 refine wpAny_call (codeAny_of_tree ?_)
 show wpAny _ _ (callAny (.type "set") _) _ _ _
 refine wpAny_pure ⟨Code.quiet_builtin _ (by decide +kernel),codeAny_builtin PySem.F.entry_type_call ?_⟩
 rw[Around.under_plain (weight_type_call_type "set" [.ref l] []) rfl]
 have h1:=PySem.F.called_set.notType
 have h2:=PySem.F.called_set.canCreate
 have hct:=PySem.F.typeCall_set_1 (.ref l)
 repeat (any_goals (first|assumption|wp_step))
 refine codeAny_mono (O5 (.ref l) (E:=E) (Q₁:=λn s₁=>n=.ref s.heap.objs.size/\s₁={ s with heap:=s.heap.push { cls:=.type "set",dict:=none,data:=.set #[] 0 (.fresh 0 0 (!byT w)) } }) ⟨rfl,rfl⟩) λr s₁ S=>?_
 cases r with
 | error e=>exact S
 | ok fl =>
  cases fl with
  | ret n =>
   obtain⟨rfl,rfl⟩:=S
   have hS:(s.heap.push { cls:=.type "set",dict:=none,data:=.set #[] 0 (.fresh 0 0 (!byT w)) }).get? s.heap.objs.size=some { cls:=.type "set",dict:=none,data:=.set #[] 0 (.fresh 0 0 (!byT w)) }:=Heap.get?_push_size _ rfl
   have hT:Shared.TypeIs { s with heap:=s.heap.push { cls:=.type "set",dict:=none,data:=.set #[] 0 (.fresh 0 0 (!byT w)) } } (.ref s.heap.objs.size) "set" := ⟨_,hS,rfl⟩
   have hli:=PySem.F.called_set.init.lookup
   have hbi:=PySem.F.called_set.init.bind (.ref s.heap.objs.size)
   repeat (any_goals (first|assumption|wp_step))
   refine codeAny_mono (codeAny_call_builtin (R:=wants (λr s₂=>r=.none/\∃ h' tk zs,s₂={ s with heap:=h',toks:=tk } /\
     Ye P w h' s.heap.objs.size zs/\(∀ y,y∈zs↔y∈ns)/\zs.length<=ns.length /\
     (∀ b o,b<s.heap.objs.size->s.heap.get? b=some o->h'.get? b=some o)) E) PySem.F.called_set.init.plain PySem.F.entry_set_init (check_set_init_1 hT ?_)) λr₂ s₂ hr₂=>?_
   ·obtain⟨ol,u,J,nl,I⟩:=hl
    obtain⟨ocls,f,O,a⟩:=ol
    simp only at J I
    subst J;subst I
    have q:(s.heap.push { cls:=.type "set",dict:=none,data:=.set #[] 0 (.fresh 0 0 (!byT w)) }).get? l=some { cls:=.type "list",dict:=f,data:=.seq items nl,slots:=a }:=Heap.get?_push_of_some _ u
    have hsls:=PySem.F.sub_list_set
    have hslf:=PySem.F.sub_list_frozenset
    have hne:(Value.type "list" == Value.type "dict")=false:=by decide
    have G:(s.heap.push { cls:=.type "set",dict:=none,data:=.set #[] 0 (.fresh 0 0 (!byT w)) }).IsList l items:=⟨_,q,rfl,nl,rfl⟩
    unfold Builtin.«set.__init__» noKeywords Builtin.Frozenset.updateFrom
    generalize hPI:pyIter=PI
    wp_walk
    subst hPI
    refine wpAny_pyIter_list G ?_
    refine wpAny_bind (wpAny_runValue ?_)
    have F:l<s.heap.objs.size:=Heap.lt_size u
    have W:A.in1.in1.in1.handled=none:=by simp[hh]
    have x:l≠(s.heap.push { cls:=.type "set",dict:=none,data:=.set #[] 0 (.fresh 0 0 (!byT w)) }).objs.size:=by
     rw[Heap.size_push];exact Nat.ne_of_lt (Nat.lt_succ_of_lt F)
    have Z:s.heap.objs.size∉[(s.heap.push { cls:=.type "set",dict:=none,data:=.set #[] 0 (.fresh 0 0 (!byT w)) }).objs.size,l]:=by
     rw[Heap.size_push];simp only[mem_cons,mem_singleton,not_mem_nil,or_false,not_or]
     exact⟨Nat.ne_of_lt (Nat.lt_succ_self _),Nat.ne_of_gt F⟩
    have p:∀ (i:Nat) (v:Value),items[i]?=some v->∃ t,v=.str ((λi=>ns.getD i Str.empty) i) t:=λi v hv =>
     RQ hi i v (by rw[Array.getElem?_toList];exact hv)
    refine O6 ((Walks.list W _ l x items).toS) s.heap.objs.size
     Z (λi=>ns.getD i Str.empty) p hb (items.size-0) 0 _ [] (by omega) (Nat.zero_le _)
     ⟨⟨_,Heap.get?_push_size _ rfl,rfl,rfl⟩,(G.push _)⟩ ?hS0 (Nat.le_refl _) (λy=>by simp) ?hR
    case hS0 =>
     have H:((s.heap.push { cls:=.type "set",dict:=none,data:=.set #[] 0 (.fresh 0 0 (!byT w)) }).push { cls:=.type "list_iterator",data:=.fields #[.ref l,.int 0 0] }).get? s.heap.objs.size
       = some { cls:=.type "set",dict:=none,data:=.set #[] 0 (.fresh 0 0 (!byT w)) }:=Heap.get?_push_of_some _ hS
     exact⟨_,#[],0,_,H,⟨rfl,rfl,rfl⟩,rfl,λe he=>by simp at he,.nil,.nil,by decide,by rfl,rfl,λz=>absurd rfl z⟩
    case hR =>
     intro s' L K m g C
     obtain⟨h',g',d',M,N⟩:=s'
     have eg:g'=s.gens:=K.gens
     have ed:d'=s.drawn:=K.drawn
     have eo:N=s.os:=K.os
     subst eg;subst ed;subst eo
     show wpAny _ _ _ _ _ _
     refine wpAny_pure ?_
     show wpAny _ _ (ret Value.none) _ _ _
     refine wpAny_pure ⟨rfl,h',M,L,rfl,m,λy=>(g y).trans (B y),by omega,λb o hb e=>?_⟩
     have Y:b≠s.heap.objs.size:=Nat.ne_of_lt hb
     have X:b≠(s.heap.push { cls:=.type "set",dict:=none,data:=.set #[] 0 (.fresh 0 0 (!byT w)) }).objs.size:=by
      rw[Heap.size_push];exact Nat.ne_of_lt (Nat.lt_succ_of_lt hb)
     exact K.heap b o (by simp only[mem_cons,mem_singleton,not_mem_nil,or_false,not_or];exact⟨Y,X⟩) (Heap.get?_push_of_some _ (Heap.get?_push_of_some _ e))
   ·cases r₂ with
    | error e=>exact hr₂
    | ok fl₂ =>
     cases fl₂ with
     | ret r =>
      obtain⟨rfl,h',tk,zs,rfl,m,g,C,U⟩:=hr₂
      repeat (any_goals (first|assumption|wp_step))
      exact h _ _ _ m g C U
     | _=>exact hr₂.elim
  | _=>exact S.elim
theorem RR{α:Type}:∀ {l:List α} {i:Nat} (h:i<l.length),(l[i]::l.eraseIdx i).Perm l
 | x::l,0,_=>.refl _
 | x::l,i+1,h=>by
  have:=RR (l:=l) (i:=i) (by simpa using h)
  exact (List.Perm.swap ..).trans (this.cons x)
theorem O7{α:Type}(next:Nat->Nat):∀ (a k:Nat) (left:List α) (out:Array α),a=left.length->(pickOrder.go next a k left out).toList.Perm (out.toList++left)
 | 0,k,left,out,h=>by
  cases left with
  | nil=>simp[pickOrder.go]
  | cons _ _=>cases h
 | a+1,k,left,out,h=>by
  have b:next k%left.length<left.length:=Nat.mod_lt _ (by omega)
  rw[pickOrder.go,getElem?_eq_getElem b]
  dsimp only
  refine (O7 next a (k+1) _ _ (by rw[List.length_eraseIdx,if_pos b];omega)).trans ?_
  rw[Array.toList_push,List.append_assoc]
  exact List.Perm.append_left _ (RR b)
theorem O8(next:Nat->Nat)(xs:Array α):(pickOrder next xs).toList.Perm xs.toList:=by
 unfold pickOrder
 simpa using O7 next xs.size 0 xs.toList #[] (by simp)
theorem Gs{a:Source}{Q:Nat->Shared->Prop}(hn:n≠0)(h:∀ i d,i<n->Q i { s with drawn:=d }):wpAny M A (choose a n) Q E s:=λc p b=>by
 unfold choose
 rw[Sem.wp_choose]
 refine⟨hn,?_⟩
 exact wpAny_pure (h _ _ (Nat.mod_lt _ (Nat.pos_of_ne_zero hn))) c p b
theorem O9{α:Type}:∀ (n:Nat) (xs:List α) (s:Shared) (Q:List α->Shared->Prop),xs.length=n->(∀ ys d,ys.Perm xs->Q ys { s with drawn:=d })->wpAny M A (drawOrder n xs) Q E s
 | 0,[],s,Q,_,h=>wpAny_pure (h [] s.drawn (.refl _))
 | n+1,x::xs,s,Q,hl,h=>by
  simp only[drawOrder]
  refine wpAny_bind (Gs (by simp) λi d a=>?_)
  rw[getElem?_eq_getElem a]
  dsimp only
  refine wpAny_bind (O9 n _ _ _ (by rw[List.length_eraseIdx,if_pos a];omega) λys d' b=>wpAny_pure (h _ d' ?_))
  exact (b.cons _).trans (RR a)
 | 0,_::_,s,Q,hl,_=>by cases hl
 | n+1,[],s,Q,hl,_=>by cases hl
theorem YB:Slot "set_iterator" "__next__" "set_iterator.__next__" :=
 .of (owner := "set_iterator") (n := "__next__") (by rw[typeLookup_type,builtinLookup_eq_fast];kernel_rfl) (by decide +kernel) (by decide +kernel) (by decide +kernel)
  (by first|exact .inl (by decide +kernel)|exact .inr (by decide +kernel)) (by rw[isSubtype_type];kernel_rfl)
theorem Na:Slot "set_iterator" "__iter__" "set_iterator.__iter__" :=
 .of (owner := "set_iterator") (n := "__iter__") (by rw[typeLookup_type,builtinLookup_eq_fast];kernel_rfl) (by decide +kernel) (by decide +kernel) (by decide +kernel)
  (by first|exact .inl (by decide +kernel)|exact .inr (by decide +kernel)) (by rw[isSubtype_type];kernel_rfl)
theorem VQ:entryFor table "set_iterator.__next__" = some Builtin.«set_iterator.__next__»:=entryFor_of_tree (by kernel_rfl)
theorem Gu:entryFor table "set_iterator.__iter__" = some Builtin.«dict_keyiterator.__iter__»:=entryFor_alias (id' := "dict_keyiterator.__iter__") (by kernel_rfl) rfl (by decide +kernel) (by kernel_rfl)
theorem Gw:entryFor table "set.__iter__" = some Builtin.«frozenset.__iter__»:=entryFor_alias (id' := "frozenset.__iter__") (by kernel_rfl) rfl (by decide +kernel) (by kernel_rfl)
theorem VR(a:Value):argsOk "set_iterator.__next__" ⟨[a],[]⟩:=by unfold argsOk;kernel_rfl
theorem Gx(a:Value):argsOk "set_iterator.__iter__" ⟨[a],[]⟩:=by unfold argsOk;kernel_rfl
def XZ(h:Heap)(it:Addr)(first:Value)(i:Nat)(a:Addr)(n ep:Nat):Prop:=∃ o,h.get? it=some o/\o.cls=.type "set_iterator" /\ o.data=.fields #[first,.int i 0,.ref a,.int n 0,.int ep 0]
def WkT(w:World)(it a pl:Addr)(vs:List Value)(i:Nat)(h:Heap):Prop :=
  ∃ o es ep t,h.get? a=some o/\o.data=.set es ep t/\t.fits es.size=true/\t.led=(!byT w)/\vs.length=es.size /\
    ((byT w=true/\XZ h it (.int 0 0) i a es.size ep/\vs=(pickOrder (w.params.setOrder a ep) es).toList.map Prod.snd) \/
     (byT w=false/\t.plain=false/\1<es.size/\∃ ps:List Nat,XZ h it (.ref pl) i a es.size ep/\(∃ op n,h.get? pl=some op/\op.data=.seq (ps.map λ(p:Nat)=>rawInt p).toArray n)/\ps.length=vs.length/\∀ (j p:Nat),ps[j]?=some p->∃ e:Int×Value,es[p]?=some e/\vs[j]?=some e.2) \/
     (byT w=false/\es.size<=1/\∃ slot:Nat,XZ h it (.int slot 0) i a es.size ep/\SetTable.below t.place slot=i/\vs=es.toList.map Prod.snd))
theorem XZ.keep{first:Value}(x:XZ h it first i a n ep)(k:∀ o,h.get? it=some o->h'.get? it=some o):XZ h' it first i a n ep:=let ⟨o,e,r⟩:=x;⟨o,k o e,r⟩
theorem WkT.keep{w:World}{h h':Heap}{it a pl:Addr}{vs:List Value}{i:Nat}(x:WkT w it a pl vs i h)(k:∀ b∈[it,a,pl],∀ o,h.get? b=some o->h'.get? b=some o):WkT w it a pl vs i h':=by
 obtain⟨o,es,v,t,u,s,q,p,m,r⟩:=x
 refine⟨o,es,v,t,k a (by simp) o u,s,q,p,m,?_⟩
 rcases r with⟨e,c,g⟩|⟨e,c,g,j,f,⟨op,n,A,y⟩,B⟩|⟨e,c,sl,f,C⟩
 ·exact .inl ⟨e,c.keep (k it (by simp)),g⟩
 ·exact .inr (.inl ⟨e,c,g,j,f.keep (k it (by simp)),⟨op,n,k pl (by simp) op A,y⟩,B⟩)
 ·exact .inr (.inr ⟨e,c,sl,f.keep (k it (by simp)),C⟩)
variable{pl:Addr}
theorem TB{Q:Bool->Shared->Prop}(h:Q (byT w) s):wpAny (model P w) A setsByText Q E s:=wpAny_bind (wpAny_askSetting (wpAny_pure h))
theorem Nb{o:Obj}{es:Array (Int×Value)}{sl:Nat}{t:SetTable}{Q:Option (Value×Nat)->Shared->Prop}(h1:s.heap.get? a=some o)(h2:o.data=.set es ep t)(b:t.fits es.size=true)(hb:byT w=true)
  (h:Q (((pickOrder (w.params.setOrder a ep) es)[i]?).map λe=>(e.2,sl)) s):wpAny (model P w) A (setNext a sl i ep) Q E s:=by
 unfold setNext
 refine wpAny_bind (wpAny_setState_of h1 h2 b ?_)
 dsimp only
 refine wpAny_bind (TB ?_)
 rw[hb,if_pos rfl]
 simp only[bne_self_eq_false,Bool.false_eq_true,if_false]
 refine wpAny_bind ?_
 unfold setWalk
 refine wpAny_bind (wpAny_setState_of h1 h2 b ?_)
 dsimp only
 refine wpAny_bind (TB ?_)
 rw[hb,if_pos rfl]
 exact wpAny_bind (wpAny_askSetting (wpAny_pure (wpAny_pure h)))
theorem Nc{o:Obj}{es:Array (Int×Value)}{sl:Nat}{t:SetTable}{Q:Option (Value×Nat)->Shared->Prop}(h1:s.heap.get? a=some o)(h2:o.data=.set es ep t)(e:t.fits es.size=true)(c:t.led=(!byT w))(hb:byT w=false)(hz:es.size<=1)
  (h:Q (match es[SetTable.below t.place sl]?,t.place[SetTable.below t.place sl]? with|some (_,x),some j=>some (x,j+1)|_,_=>none) s):wpAny (model P w) A (setNext a sl i ep) Q E s:=by
 unfold setNext
 refine wpAny_bind (wpAny_setState_of h1 h2 e ?_)
 dsimp only
 refine wpAny_bind (TB ?_)
 rw[hb,if_neg Bool.false_ne_true]
 refine wpAny_ite_split (λb=>?_) λ_=>?_
 ·have b:(!t.plain && decide (es.size > 1))=true:=b
  simp only[Bool.and_eq_true,decide_eq_true_eq] at b
  omega
 refine wpAny_bind ?_
 show wpAny _ _ (if (!t.led && !es.isEmpty)=true then _ else _) _ _ _
 rw[if_neg (by rw[c,hb];simp)]
 exact wpAny_pure (wpAny_pure h)
theorem Gy{o:Obj}{es:Array (Int×Value)}{pl:Nat}{t:SetTable}{e:Int×Value}(h1:s.heap.get? a=some o)(h2:o.data=.set es ep t)(c:t.fits es.size=true)(b:es[pl]?=some e)
  (h:Q e.2 s):wpAny (model P w) A (setNextDrawn a pl ep) Q E s:=by
 unfold setNextDrawn
 refine wpAny_bind (wpAny_setState_of h1 h2 c ?_)
 dsimp only
 simp only[bne_self_eq_false,Bool.false_eq_true,if_false,b]
 exact wpAny_pure h
theorem Gz{vs:List Value}{Q:Option Value->Shared->Prop}(M:it≠a)(hip:it≠pl)(x:WkT w it a pl vs i s.heap){v:Value}(L:vs[i]?=some v)
  (h:∀ h',WkT w it a pl vs (i+1) h'->Heap.SameBut it s.heap h'->Q (some v) { s with heap:=h' }):wpAny (model P w) A (pyNext (.ref it)) Q E s:=by
 obtain⟨o,es,F,t,J,I,C,Y,h5,r⟩:=x
 have hi:i<es.size:=by
  rcases Nat.lt_or_ge i vs.length with q|q
  ·omega
  ·rw[getElem?_eq_none q] at L;cases L
 have step:∀ (first c:Value) (m:Obj),s.heap.get? it=some m->m.cls=.type "set_iterator" -> m.data=.fields #[first,.int i 0,.ref a,.int es.size 0,.int F 0]->XZ ((s.heap.update it (Obj.mapFields (·.setIfInBounds 0 c))).update it (Obj.mapFields (·.setIfInBounds 1 (rawInt ((i:Int)+1))))) it c (i+1) a es.size F/\XZ (s.heap.update it (Obj.mapFields (·.setIfInBounds 1 (rawInt ((i:Int)+1))))) it first (i+1) a es.size F:=λfirst c m g B f=>by
  have X:=Heap.get?_update_self (Obj.mapFields (·.setIfInBounds 0 c)) g (Obj.isFreed_of_fields (Obj.data_mapFields f _))
  have d1:(Obj.mapFields (·.setIfInBounds 0 c) m).data=.fields #[c,.int i 0,.ref a,.int es.size 0,.int F 0]:=by rw[Obj.data_mapFields f];rfl
  refine⟨⟨_,Heap.get?_update_self _ X (Obj.isFreed_of_fields (Obj.data_mapFields d1 _)),(Obj.cls_mapFields ..).trans ((Obj.cls_mapFields ..).trans B),by rw[Obj.data_mapFields d1];rfl⟩,⟨_,Heap.get?_update_self _ g (Obj.isFreed_of_fields (Obj.data_mapFields f _)),(Obj.cls_mapFields ..).trans B,by rw[Obj.data_mapFields f];rfl⟩⟩
 rcases r with⟨O,⟨m,g,B,f⟩,a3⟩|⟨O,a2,a3,R,⟨m,g,B,f⟩,⟨op,n,c1,c2⟩,Z,b4⟩|⟨O,a2,sl,⟨m,g,B,f⟩,b2,Z⟩
 ·have K:s.TypeIs (.ref it) "set_iterator" := ⟨_,g,B⟩
  unfold pyNext
  refine wpAny_bind (wpAny_attempt (wpAny_callSpecial?_slot (name:=Str.ofString "__next__") K YB (wpAny_call_entry YB K VQ ?_ (VR _))))
  unfold Builtin.«set_iterator.__next__»
  refine wpAny_bind (wpAny_pure ?_)
  refine wpAny_bind (wpAny_fieldsOf g f ?_)
  dsimp only
  refine wpAny_bind (wpAny_setEntries_of J I C ?_)
  rw[if_neg (by simp)]
  have y:=step (.int 0 0) (.int 0 0) m g B f
  refine wpAny_bind (Nb J I C O ?_)
  have hpk:(pickOrder (w.params.setOrder a F) es)[(i:Int).toNat]?.map Prod.snd=some v:=by
   rw[a3,getElem?_map,Array.getElem?_toList] at L
   exact L
  obtain⟨e,W,rfl⟩:=Option.map_eq_some_iff.mp hpk
  rw[show ((F:Nat):Int).toNat=F from Int.toNat_natCast _,W]
  dsimp only[Option.map_some]
  refine wpAny_bind (wpAny_setField g f (by simp) ?_)
  have X:=Heap.get?_update_self (Obj.mapFields (·.setIfInBounds 0 (rawInt ((Int.toNat 0:Nat):Int)))) g (Obj.isFreed_of_fields (Obj.data_mapFields f _))
  refine wpAny_bind (wpAny_setField X (Obj.data_mapFields f _) (by simp) ?_)
  refine wpAny_pure ⟨_,rfl,wpAny_pure (h _ ?_ ((Heap.SameBut.update ..).trans (Heap.SameBut.update ..)))⟩
  have S:∀ {b:Addr} {u:Obj},b≠it->s.heap.get? b=some u->((s.heap.update it (Obj.mapFields (·.setIfInBounds 0 (rawInt ((Int.toNat 0:Nat):Int))))).update it (Obj.mapFields (·.setIfInBounds 1 (rawInt ((i:Int)+1))))).get? b=some u:=λN q=>by
   rw[Heap.get?_update_ne _ _ _ _ N,Heap.get?_update_ne _ _ _ _ N];exact q
  exact⟨o,es,F,t,S (Ne.symm M) J,I,C,Y,h5,.inl ⟨O,y.1,a3⟩⟩
 ·have K:s.TypeIs (.ref it) "set_iterator" := ⟨_,g,B⟩
  unfold pyNext
  refine wpAny_bind (wpAny_attempt (wpAny_callSpecial?_slot (name:=Str.ofString "__next__") K YB (wpAny_call_entry YB K VQ ?_ (VR _))))
  unfold Builtin.«set_iterator.__next__»
  refine wpAny_bind (wpAny_pure ?_)
  refine wpAny_bind (wpAny_fieldsOf g f ?_)
  dsimp only
  refine wpAny_bind (wpAny_setEntries_of J I C ?_)
  rw[if_neg (by simp)]
  have y:=step (.ref pl) (.ref pl) m g B f
  refine wpAny_bind (wpAny_seqItems c1 c2 ?_)
  dsimp only
  have G:i<R.length:=by omega
  obtain⟨e,W,H⟩:=b4 i R[i] (getElem?_eq_getElem G)
  rw[L] at H
  cases H
  have hpl:((R.map λ(p:Nat)=>rawInt p).toArray)[(i:Int).toNat]?=some (rawInt (R[i]:Nat)):=by
   rw[Int.toNat_natCast,List.getElem?_toArray,getElem?_map,getElem?_eq_getElem G];rfl
  rw[hpl]
  show wpAny _ _ (setNextDrawn a ((R[i]:Nat):Int).toNat _ >>= _) _ _ _
  refine wpAny_bind (Gy J I C (by rw[Int.toNat_natCast];exact W) ?_)
  refine wpAny_bind (wpAny_setField g f (by simp) ?_)
  refine wpAny_pure ⟨_,rfl,wpAny_pure (h _ ?_ (Heap.SameBut.update ..))⟩
  have S:∀ {b:Addr} {u:Obj},b≠it->s.heap.get? b=some u->(s.heap.update it (Obj.mapFields (·.setIfInBounds 1 (rawInt ((i:Int)+1))))).get? b=some u:=λN q=>by
   rw[Heap.get?_update_ne _ _ _ _ N];exact q
  exact⟨o,es,F,t,S (Ne.symm M) J,I,C,Y,h5,.inr (.inl ⟨O,a2,a3,R,y.2,⟨op,n,S (Ne.symm hip) c1,c2⟩,Z,b4⟩)⟩
 ·have K:s.TypeIs (.ref it) "set_iterator" := ⟨_,g,B⟩
  unfold pyNext
  refine wpAny_bind (wpAny_attempt (wpAny_callSpecial?_slot (name:=Str.ofString "__next__") K YB (wpAny_call_entry YB K VQ ?_ (VR _))))
  unfold Builtin.«set_iterator.__next__»
  refine wpAny_bind (wpAny_pure ?_)
  refine wpAny_bind (wpAny_fieldsOf g f ?_)
  dsimp only
  refine wpAny_bind (wpAny_setEntries_of J I C ?_)
  rw[if_neg (by simp)]
  obtain rfl:i=0:=by omega
  have hz1:es.size=1:=by omega
  have G:t.place.size=1:=by simp only[SetTable.fits,Bool.and_eq_true,beq_iff_eq] at C;omega
  obtain⟨T,U⟩:∃ p,t.place=#[p]:=by
   refine⟨t.place[0],?_⟩
   apply Array.ext
   ·simp[G]
   ·intro j hj _
    have:j=0:=by omega
    subst this
    rfl
  have y:=step (.int sl 0) (.int ((T+1:Nat):Int) 0) m g B f
  refine wpAny_bind (Nc J I C Y O a2 ?_)
  have H:es[0]?.map Prod.snd=some v:=by
   rw[Z,getElem?_map,Array.getElem?_toList] at L
   exact L
  obtain⟨e,W,rfl⟩:=Option.map_eq_some_iff.mp H
  rw[Int.toNat_natCast,b2,W,U]
  show wpAny _ _ (setField (.ref it) 0 (rawInt ((T+1:Nat):Int)) >>= _) _ _ _
  refine wpAny_bind (wpAny_setField g f (by simp) ?_)
  have X:=Heap.get?_update_self (Obj.mapFields (·.setIfInBounds 0 (rawInt ((T+1:Nat):Int)))) g (Obj.isFreed_of_fields (Obj.data_mapFields f _))
  refine wpAny_bind (wpAny_setField X (Obj.data_mapFields f _) (by simp) ?_)
  refine wpAny_pure ⟨_,rfl,wpAny_pure (h _ ?_ ((Heap.SameBut.update ..).trans (Heap.SameBut.update ..)))⟩
  have S:∀ {b:Addr} {u:Obj},b≠it->s.heap.get? b=some u->((s.heap.update it (Obj.mapFields (·.setIfInBounds 0 (rawInt ((T+1:Nat):Int))))).update it (Obj.mapFields (·.setIfInBounds 1 (rawInt (((0:Nat):Int)+1))))).get? b=some u:=λN q=>by
   rw[Heap.get?_update_ne _ _ _ _ N,Heap.get?_update_ne _ _ _ _ N];exact q
  refine⟨o,es,F,t,S (Ne.symm M) J,I,C,Y,h5,.inr (.inr ⟨O,a2,T+1,y.1,?_,Z⟩)⟩
  rw[U]
  simp[SetTable.below,SetTable.below.go]
theorem GA{vs:List Value}{Q:Option Value->Shared->Prop}(v:A.handled=none)(x:WkT w it a pl vs vs.length s.heap)
  (h:∀ h',Heap.ExtBut it s.heap h'->Q none { s with heap:=h' }):wpAny (model P w) A (pyNext (.ref it)) Q E s:=by
 obtain⟨o,es,y,t,j,i,g,H,O,r⟩:=x
 rcases r with⟨u,⟨B,c,q,e⟩,C⟩|⟨u,F,C,G,⟨B,c,q,e⟩,⟨op,n,K,J⟩,L,R⟩|⟨u,F,sl,⟨B,c,q,e⟩,M,L⟩
 ·have f:s.TypeIs (.ref it) "set_iterator" := ⟨_,c,q⟩
  unfold pyNext
  refine wpAny_bind (wpAny_attempt (wpAny_callSpecial?_slot (name:=Str.ofString "__next__") f YB (wpAny_call_entry YB f VQ ?_ (VR _))))
  unfold Builtin.«set_iterator.__next__»
  refine wpAny_bind (wpAny_pure ?_)
  refine wpAny_bind (wpAny_fieldsOf c e ?_)
  dsimp only
  refine wpAny_bind (wpAny_setEntries_of j i g ?_)
  rw[if_neg (by simp)]
  refine wpAny_bind (Nb j i g u ?_)
  have N:(pickOrder (w.params.setOrder a y) es).size=vs.length:=by rw[C,length_map,Array.length_toList]
  rw[show ((y:Nat):Int).toNat=y from Int.toNat_natCast _,show ((vs.length:Nat):Int).toNat=vs.length from Int.toNat_natCast _,Array.getElem?_eq_none (by omega)]
  dsimp only[Option.map_none]
  refine wpAny_bind (wpAny_setField c e (by simp) ?_)
  refine wpAny_bind ?_
  simp only[newExc,newTuple]
  refine wpAny_bind (wpAny_newObj_type ?_ (by size_fits))
  refine wpAny_bind (m:=firstArgMember _ _) (wpAny_of_eq (a:=Value.none) (by first|rfl|(simp only[firstArgMember];rfl)) ?_)
  refine wpAny_newObj_type ?_ (by size_fits)
  simp only[raiseNew]
  refine wpAny_bind (wpAny_handled ?_)
  rw[show A.in1.handled=none from v]
  refine wpAny_bind (wpAny_pure (wpAny_throw ?_))
  refine wpAny_bind (wpAny_isInstance (T := "StopIteration") (b:=true) ⟨_,Heap.get?_push_size _ rfl,rfl⟩ isSubtype_stop ?_)
  exact wpAny_pure (h _ (((Heap.SameBut.update ..).extBut.push _).push _))
 ·have f:s.TypeIs (.ref it) "set_iterator" := ⟨_,c,q⟩
  unfold pyNext
  refine wpAny_bind (wpAny_attempt (wpAny_callSpecial?_slot (name:=Str.ofString "__next__") f YB (wpAny_call_entry YB f VQ ?_ (VR _))))
  unfold Builtin.«set_iterator.__next__»
  refine wpAny_bind (wpAny_pure ?_)
  refine wpAny_bind (wpAny_fieldsOf c e ?_)
  dsimp only
  refine wpAny_bind (wpAny_setEntries_of j i g ?_)
  rw[if_neg (by simp)]
  refine wpAny_bind (wpAny_seqItems K J ?_)
  dsimp only
  rw[show ((vs.length:Nat):Int).toNat=vs.length from Int.toNat_natCast _,show ((G.map λ(p:Nat)=>rawInt p).toArray)[vs.length]?=none by rw[List.getElem?_toArray,getElem?_eq_none (by rw[length_map];omega)]]
  dsimp only
  refine wpAny_bind (wpAny_setField c e (by simp) ?_)
  have I:=Heap.get?_update_self (Obj.mapFields (·.setIfInBounds 0 (rawInt 0))) c (Obj.isFreed_of_fields (Obj.data_mapFields e _))
  refine wpAny_bind (wpAny_setField I (Obj.data_mapFields e _) (by simp) ?_)
  refine wpAny_bind ?_
  simp only[newExc,newTuple]
  refine wpAny_bind (wpAny_newObj_type ?_ (by size_fits))
  refine wpAny_bind (m:=firstArgMember _ _) (wpAny_of_eq (a:=Value.none) (by first|rfl|(simp only[firstArgMember];rfl)) ?_)
  refine wpAny_newObj_type ?_ (by size_fits)
  simp only[raiseNew]
  refine wpAny_bind (wpAny_handled ?_)
  rw[show A.in1.handled=none from v]
  refine wpAny_bind (wpAny_pure (wpAny_throw ?_))
  refine wpAny_bind (wpAny_isInstance (T := "StopIteration") (b:=true) ⟨_,Heap.get?_push_size _ rfl,rfl⟩ isSubtype_stop ?_)
  exact wpAny_pure (h _ ((((Heap.SameBut.update ..).trans (Heap.SameBut.update ..)).extBut.push _).push _))
 ·have f:s.TypeIs (.ref it) "set_iterator" := ⟨_,c,q⟩
  unfold pyNext
  refine wpAny_bind (wpAny_attempt (wpAny_callSpecial?_slot (name:=Str.ofString "__next__") f YB (wpAny_call_entry YB f VQ ?_ (VR _))))
  unfold Builtin.«set_iterator.__next__»
  refine wpAny_bind (wpAny_pure ?_)
  refine wpAny_bind (wpAny_fieldsOf c e ?_)
  dsimp only
  refine wpAny_bind (wpAny_setEntries_of j i g ?_)
  rw[if_neg (by simp)]
  refine wpAny_bind (Nc j i g H u F ?_)
  rw[Int.toNat_natCast,M,Array.getElem?_eq_none (show es.size<=vs.length by omega)]
  dsimp only
  refine wpAny_bind (wpAny_setField c e (by simp) ?_)
  refine wpAny_bind ?_
  simp only[newExc,newTuple]
  refine wpAny_bind (wpAny_newObj_type ?_ (by size_fits))
  refine wpAny_bind (m:=firstArgMember _ _) (wpAny_of_eq (a:=Value.none) (by first|rfl|(simp only[firstArgMember];rfl)) ?_)
  refine wpAny_newObj_type ?_ (by size_fits)
  simp only[raiseNew]
  refine wpAny_bind (wpAny_handled ?_)
  rw[show A.in1.handled=none from v]
  refine wpAny_bind (wpAny_pure (wpAny_throw ?_))
  refine wpAny_bind (wpAny_isInstance (T := "StopIteration") (b:=true) ⟨_,Heap.get?_push_size _ rfl,rfl⟩ isSubtype_stop ?_)
  exact wpAny_pure (h _ (((Heap.SameBut.update ..).extBut.push _).push _))
theorem GB{vs:List Value}(x:WkT w it a pl vs i s.heap)(h:Q (.ref it) s):wpAny (model P w) A (pyIter (.ref it)) Q E s:=by
 have f:s.TypeIs (.ref it) "set_iterator" := by
  obtain⟨o,es,u,t,q,p,n,m,j,r⟩:=x
  rcases r with⟨_,⟨b,e,c,_⟩,_⟩|⟨_,_,_,g,⟨b,e,c,_⟩,_⟩|⟨_,_,sl,⟨b,e,c,_⟩,_⟩
  ·exact⟨b,e,c⟩
  ·exact⟨b,e,c⟩
  ·exact⟨b,e,c⟩
 refine wpAny_pyIter_slot f Na (wpAny_call_entry Na f Gu ?_ (Gx _))
 show wpAny _ _ (ret (.ref it)) _ _ s
 exact wpAny_pure ⟨_,rfl, "set_iterator",_,f,YB.lookup,h⟩
theorem Nd{vs:List Value}(q:A.handled=none)(j:it≠a)(m:it≠pl):WalksS P w A it [it,a,pl] [it] Eq vs.length (λi v=>vs[i]?=some v) (λi s=>WkT w it a pl vs i s.heap) where
 sub:=λb f=>by rw[mem_singleton.mp f];simp
 grefl:=λ_=>rfl
 gtrans:=λ_ _ _=>Eq.trans
 frame:=λi s h' u c _ k=>WkT.keep c k
 item:=λi s Q E n c g=>Gz j m c (getElem?_eq_getElem n) λh' h p=>g _ _ (getElem?_eq_getElem n) h ⟨λb o f e=>(p.2 b (λz=>f (by simp[z]))).trans e,rfl,rfl,rfl,Nat.le_refl _⟩
 done:=λs Q E c g=>GA q c λh' r=>g _ ⟨λb o f e=>r b o (λz=>f (by simp[z])) e,rfl,rfl,rfl,Nat.le_refl _⟩
 self:=λi s Q E c g=>GB c g
theorem GC(hS:Ye P w s.heap a zs)
  (h:∀ (it pl:Addr) (vs:List Value) (e:List Str) (h':Heap) (d:Drawn),it≠a->it≠pl->s.heap.objs.size<=it->(pl=a\/s.heap.objs.size<=pl)->StrsAre vs e->e.Perm zs->WkT w it a pl vs 0 h'->(∀ b o,s.heap.get? b=some o->h'.get? b=some o)->Q (.ref it) { s with heap:=h',drawn:=d }) :
  wpAny (model P w) A (pyIter (.ref a)) Q E s:=by
 obtain⟨o,es,v,t,n,S,I,hel,x,Z,hb,r,T,Y⟩:=hS
 have W:s.TypeIs (.ref a) "set" := ⟨o,n,S.1⟩
 have g:=Heap.lt_size n
 refine wpAny_pyIter_slot W PySem.F.slot_set_iter (wpAny_call_entry PySem.F.slot_set_iter W Gw ?_ (PySem.F.args_set_iter_1 _))
 unfold Builtin.«frozenset.__iter__»
 refine wpAny_bind (m:=Builtin.Frozenset.slot0 _ _) (wpAny_bind (wpAny_pure (wpAny_pure ?_)))
 refine wpAny_bind (wpAny_bind (wpAny_setEntries_of n I r (wpAny_pure ?_)))
 refine wpAny_bind ?_
 unfold setDrawn
 refine wpAny_bind (wpAny_setState_of n I r ?_)
 dsimp only
 refine wpAny_bind (TB (wpAny_pure ?_))
 have fin:∀ (first:Value) (F:Shared) (R:PySem.Fin->Shared->Prop) (X:Value->Shared->Prop),F.heap.get? a=some o->R (.done (.ret (.ref F.heap.objs.size))) { F with heap:=F.heap.push { cls:=.type "set_iterator",data:=.fields #[first,rawInt 0,.ref a,rawInt es.size,rawInt v] } } ->
   wpAny (model P w) A.in1 (do
    let __do_lift <- setEpoch a
    let __do_lift <- newFields "set_iterator" [first,rawInt 0,Value.ref a,rawInt es.size,rawInt __do_lift]
    ret __do_lift) R X F:=λfirst F R X q hR=>by
  refine wpAny_bind (wpAny_setEpoch_of q I r ?_)
  refine wpAny_bind ?_
  unfold newFields
  exact wpAny_newObj_type (wpAny_pure hR) (by size_fits)
 show wpAny _ _ (if (!byT w && (!t.plain && decide (es.size > 1)))=true then _ else _) _ _ _
 have f:∀ (U:Heap) (first:Value) ,XZ (U.push { cls:=.type "set_iterator",data:=.fields #[first,rawInt 0,.ref a,rawInt es.size,rawInt v] }) U.objs.size first 0 a es.size v:=λU first=>⟨_,Heap.get?_push_size _ rfl,rfl,rfl⟩
 refine wpAny_ite_split (λH=>?_) λH=>?_
 ·simp only[Bool.and_eq_true,Bool.not_eq_true',decide_eq_true_eq] at H
  refine wpAny_bind (O9 _ _ _ _ (length_range ..) λG d c=>?_)
  refine wpAny_bind (wpAny_newTuple ?_ (by rw[length_map,c.length_eq,length_range];exact fits_of_scanBound hb))
  refine fin _ _ _ _ (Heap.get?_push_of_some _ n) ⟨_,rfl, "set_iterator",_,⟨_,Heap.get?_push_size _ rfl,rfl⟩,YB.lookup,?_⟩
  have O:G.length=es.size:=by rw[c.length_eq,length_range]
  have M:(List.range es.size).map (λp=>(es[p]?.map Prod.snd).getD Value.none)=es.toList.map Prod.snd:=by
   refine ext_getElem (by simp) λj g1 g2=>?_
   have L:j<es.size:=by simpa using g1
   simp[Array.getElem?_eq_getElem L]
  have N:(G.map λp=>(es[p]?.map Prod.snd).getD Value.none).Perm (es.toList.map Prod.snd):=by rw[<- M];exact c.map _
  obtain⟨e,y,B⟩:=Tz N x
  have C:(s.heap.push { cls:=.type "tuple",data:=.seq (G.map λ(i:Nat)=>rawInt i).toArray }).objs.size=s.heap.objs.size+1:=Heap.size_push ..
  have:=h (s.heap.push { cls:=.type "tuple",data:=.seq (G.map λ(i:Nat)=>rawInt i).toArray }).objs.size s.heap.objs.size (G.map λp=>(es[p]?.map Prod.snd).getD Value.none) e _ d (by rw[C];exact Nat.ne_of_gt (Nat.lt_succ_of_lt g)) (by rw[C];exact Nat.ne_of_gt (Nat.lt_succ_self _)) (by rw[C];exact Nat.le_succ _) (.inr (Nat.le_refl _)) y B
   ⟨o,es,v,t,Heap.get?_push_of_some _ (Heap.get?_push_of_some _ n),I,r,T,by rw[length_map,O],.inr (.inl ⟨H.1,H.2.1,H.2.2,G,f _ _,⟨_,_,Heap.get?_push_of_some _ (Heap.get?_push_size _ rfl),rfl⟩,by rw[length_map],λj p L=>?_⟩)⟩ λb u q=>Heap.get?_push_of_some _ (Heap.get?_push_of_some _ q)
  ·exact this
  ·have J:p<es.size:=by
    have:=c.mem_iff.mp (List.mem_of_getElem? L)
    exact mem_range.mp this
   exact⟨es[p],Array.getElem?_eq_getElem J,by rw[getElem?_map,L];simp[Array.getElem?_eq_getElem J]⟩
 ·refine wpAny_bind (wpAny_pure ?_)
  refine fin _ _ _ _ n ⟨_,rfl, "set_iterator",_,⟨_,Heap.get?_push_size _ rfl,rfl⟩,YB.lookup,?_⟩
  have K:∀ b u,s.heap.get? b=some u->(s.heap.push { cls:=.type "set_iterator",data:=.fields #[rawInt 0,rawInt 0,.ref a,rawInt es.size,rawInt v] }).get? b=some u:=λb u q=>Heap.get?_push_of_some _ q
  cases hbt:byT w with
  | true =>
   obtain⟨e,y,B⟩:=Tz ((O8 (w.params.setOrder a v) es).map Prod.snd) x
   exact h s.heap.objs.size a _ e _ s.drawn (Nat.ne_of_gt g) (Nat.ne_of_gt g) (Nat.le_refl _) (.inl rfl) y B ⟨o,es,v,t,K _ _ n,I,r,T,by rw[length_map,(O8 _ _).length_eq,Array.length_toList],.inl ⟨hbt,f _ _,rfl⟩⟩ K
  | false =>
   have hz:es.size<=1:=by
    refine Nat.le_of_not_lt λq=>H ?_
    rw[hbt,Y (by omega),decide_eq_true q]
    rfl
   have c:t.place.size=es.size:=by simp only[SetTable.fits,Bool.and_eq_true,beq_iff_eq] at r;exact r.1
   refine h s.heap.objs.size a _ zs _ s.drawn (Nat.ne_of_gt g) (Nat.ne_of_gt g) (Nat.le_refl _) (.inl rfl) x (.refl _) ⟨o,es,v,t,K _ _ n,I,r,T,by rw[length_map,Array.length_toList],.inr (.inr ⟨hbt,hz,0,f _ _,?_,rfl⟩)⟩ K
   generalize t.place=pl at c
   obtain⟨l⟩:=pl
   match l,c with
   | [],_=>rfl
   | [p],_=>simp[SetTable.below,SetTable.below.go]
   | _::_::_,q=>exact absurd hz (by rw[<- q];simp)
theorem GD(f:s.TypeIs (.ref a) "set"){Q:Bool->Shared->Prop}(h:Q false s):wpAny (model P w) A (Builtin.List.listLengthHint (.ref a)) Q E s:=by
 unfold Builtin.List.listLengthHint
 refine wpAny_bind (wpAny_specialOf f PySem.F.slot_set_len.lookup ?_)
 generalize hid:("set.__len__" : String)=e
 wp_delta
 rw[show splitId e=some ("set", "__len__") from by subst hid;decide +kernel]
 subst hid
 refine wpAny_bind (wpAny_isInstance (T := "set") (b:=true) f (by rw[isSubtype_type];kernel_rfl) ?_)
 refine wpAny_ite_split (λc=>absurd c (by decide)) (λ_=>?_)
 refine wpAny_ite_split (λ_=>?_) (λc=>absurd (by decide +kernel) c)
 refine wpAny_bind (wpAny_typeOf f ?_)
 exact wpAny_pure h
theorem GE{R:List Value->Shared->Prop}(hh:A.handled=none)(U:Ye P w s.heap a zs)
  (h:∀ (h':Heap) (tk:Nat) (d:Drawn) (S:List Value) (n:List Str),(∀ b o,s.heap.get? b=some o->h'.get? b=some o)->StrsAre S n->n.Perm zs->R S { s with heap:=h',toks:=tk,drawn:=d }) :
  wpAny (model P w) A (collect (.ref a)) R E s:=by
 have x:zs.length<=sizeLine:=by
  obtain⟨o,es,ep,t,_,_,_,_,p,_,x,_⟩:=U
  have:=XY p
  rw[length_map,Array.length_toList] at this
  rw[<- this];exact fits_of_scanBound x
 unfold collect
 refine wpAny_bind (wpAny_runValue (codeAny_builtin entry_proto_collect' ?_))
 rw[Around.under_plainId PySem.F.plain_proto_collect _]
 show wpAny _ A.in1 (newList [] >>= λl=>again (.builtin "list.__iadd__" ⟨[l,.ref a],[]⟩)) _ _ s
 refine wpAny_bind (wpAny_newObj_type ?_)
 refine wpAny_pure ⟨plainId_quiet PySem.F.plain_list_iadd _,codeAny_builtin entry_list_iadd' ?_⟩
 rw[Around.under_plainId PySem.F.plain_list_iadd _]
 have hS₁:(s.heap.push { cls:=.type "list",data:=.seq ([]:List Value).toArray }).get? s.heap.objs.size=some { cls:=.type "list",data:=.seq #[] }:=Heap.get?_push_size _ rfl
 have hSs:Ye P w (s.heap.push { cls:=.type "list",data:=.seq ([]:List Value).toArray }) a zs:=U.moved λo e=>Heap.get?_push_of_some _ e
 have y:a<s.heap.objs.size:=by obtain⟨o,_,_,_,O,_⟩:=U;exact Heap.lt_size O
 have hT:∀ (W:Shared),(∀ o,s.heap.get? a=some o->W.heap.get? a=some o)->W.TypeIs (.ref a) "set" := λW k=>by obtain⟨o,_,_,_,O,hex,_⟩:=U;exact⟨o,k o O,hex.1⟩
 show wpAny _ A.in1 (Builtin.List.listExtendWith (.ref s.heap.objs.size) (.ref a) (.ref s.heap.objs.size)) _ _ _
 unfold Builtin.List.listExtendWith
 refine wpAny_bind (wpAny_typeOf (T := "set") (hT _ λo e=>Heap.get?_push_of_some _ e) ?_)
 have O:Builtin.List.listSameRef (.ref s.heap.objs.size) (.ref a)=false:=by simp[Builtin.List.listSameRef,Nat.ne_of_gt y]
 have N:(Value.type "set" == Value.type "list")=false:=by decide
 have h3:(Value.type "set" == Value.type "tuple")=false:=by decide
 simp only[O,N,h3,Bool.or_false,Bool.false_eq_true,if_false]
 refine wpAny_bind (GC hSs λit X vs n h' d J K M Z p H wk hk=>?_)
 refine wpAny_bind (wpAny_holding (GD (hT _ λo e=>hk _ _ (Heap.get?_push_of_some _ e)) ?_))
 have hsz:(s.heap.push { cls:=.type "list",data:=.seq ([]:List Value).toArray }).objs.size=s.heap.objs.size+1:=Heap.size_push ..
 have hSi:s.heap.objs.size≠it:=λz=>by have Q:(s.heap.push { cls:=.type "list",data:=.seq ([]:List Value).toArray }).objs.size<=it:=M;rw[hsz,<- z] at Q;exact absurd Q (Nat.not_succ_le_self _)
 have hSp:s.heap.objs.size≠X:=λz=>by
  rcases Z with e|e
  ·exact absurd y (by rw[<- e,<- z];exact Nat.lt_irrefl _)
  ·have Q:(s.heap.push { cls:=.type "list",data:=.seq ([]:List Value).toArray }).objs.size<=X:=e
   rw[hsz,<- z] at Q;exact absurd Q (Nat.not_succ_le_self _)
 have B:s.heap.objs.size∉[it,a,X]:=by simp only[mem_cons,not_mem_nil,or_false,not_or];exact⟨hSi,Nat.ne_of_gt y,hSp⟩
 have G:vs.length<=sizeLine:=by rw[XY p,H.length_eq];exact x
 have C:h'.get? s.heap.objs.size=some { cls:=.type "list",data:=.seq #[] }:=hk _ _ hS₁
 have I:∀ b o,s.heap.get? b=some o->h'.get? b=some o:=λb o e=>hk _ _ (Heap.get?_push_of_some _ e)
 have Y:s.heap.get? it=none:=Heap.get?_none_of_le (Nat.le_trans (Nat.le_succ _) (by show s.heap.objs.size+1<=it;rw[<- hsz];exact M))
 have r:∀ (g:Shared) (c:Array Value) (F:Nat) (N:Heap) ,(∀ b o,b≠s.heap.objs.size->h'.get? b=some o->N.get? b=some o)->Moved (s.heap.objs.size::[it]) Eq { s with heap:=N,drawn:=d } g->g.heap.get? s.heap.objs.size=some { cls:=.type "list",dict:=none,data:=.seq c F,slots:=#[] }->ItemsOf (λi v=>vs[i]?=some v) c vs.length ->
   wpAny (model P w) A (load s.heap.objs.size >>= λo=>match o.data with|.seq xs _=>pure xs.toList|_=>unsupported "internal:collect") R E g:=λg c F N k2 u m f=>by
  refine wpAny_bind (wpAny_load m ?_)
  have e:c.toList=vs:=by
   refine List.ext_getElem? λj=>?_
   rw[Array.getElem?_toList]
   by_cases q:j<c.size
   ·have:=f.2 j c[j] (Array.getElem?_eq_getElem q)
    rw[Array.getElem?_eq_getElem q];exact this.symm
   ·rw[Array.getElem?_eq_none (by omega),getElem?_eq_none (by have:=f.1;omega)]
  have em:g={ s with heap:=g.heap,toks:=g.toks,drawn:=d }:=by
   obtain⟨hh',g',d',t',o'⟩:=g
   have e1:s.gens=g':=u.gens
   have e2:d'=d:=u.drawn
   have e3:o'=s.os:=u.os
   subst e1 e2 e3
   rfl
  show wpAny _ _ (pure c.toList) _ _ _
  rw[e,em]
  exact wpAny_pure (h _ _ _ vs n (λb o q=>u.heap b o (by
   simp only[mem_cons,not_mem_nil,or_false,not_or]
   exact⟨Nat.ne_of_lt (Heap.lt_size q),λz=>by rw[z,Y] at q;cases q⟩) (k2 b o (Nat.ne_of_lt (Heap.lt_size q)) (I b o q))) p H)
 have L:A.in1.handled=none:=hh
 refine wpAny_ite_split (λ_=>?_) λ_=>?_
 ·refine wpAny_bind (wpAny_rule ?_)
  refine wpAny_bind ?_
  show wpAny _ _ (updateSeq s.heap.objs.size (·.push .none) >>= λ_=>updateSeq s.heap.objs.size (·.pop)) _ _ _
  refine wpAny_bind (wpAny_updateSeq C rfl ?_)
  have hS₂:=Heap.get?_update_self (Obj.mapSeq (·.push Value.none)) C rfl
  refine wpAny_updateSeq (hz:=by seq_fits) hS₂ rfl ?_
  have hS₃:=Heap.get?_update_self (Obj.mapSeq (·.pop)) hS₂ rfl
  have k3:∀ b o,b≠s.heap.objs.size->h'.get? b=some o->((h'.update s.heap.objs.size (Obj.mapSeq (·.push Value.none))).update s.heap.objs.size (Obj.mapSeq (·.pop))).get? b=some o:=λb o x e =>
   (Heap.get?_update_other _ _ (Ne.symm x)).trans ((Heap.get?_update_other _ _ (Ne.symm x)).trans e)
  refine wpAny_pure ⟨plainId_quiet PySem.F.plain_extend_loop _,codeAny_extend_loopS (Nd L J K) G s.heap.objs.size B _ vs.length 0 _ #[] _ rfl (Nat.zero_le _) (wk.keep λb x o e=>k3 b o (λz=>B (z▸x)) e) hS₃ (ItemsOf.nil _) λg c F u m f=>?_⟩
  exact r g c F _ k3 u m f
 ·refine wpAny_pure ⟨plainId_quiet PySem.F.plain_extend_loop _,codeAny_extend_loopS (Nd L J K) G s.heap.objs.size B _ vs.length 0 _ #[] _ rfl (Nat.zero_le _) wk C (ItemsOf.nil _) λg c F u m f=>?_⟩
  exact r g c F _ (λ_ _ _ e=>e) u m f
section
open PySem.Calls
theorem Inv.keptD{d:Drawn}(I:Inv X pins σ H s)(k:∀ b u,s.heap.get? b=some u->h'.get? b=some u):Inv X pins σ H { s with heap:=h',toks:=t',drawn:=d } :=
 let J:=I.kept (t':=t') k
 ⟨J.ok,J.os,J.bare,J.base,J.loc,J.cell,J.free,J.freeC,J.pin,J.hok,J.len⟩
def hST(P:Program)(w:World)(p:Addr)(zs:List Str):HO:=.ext λh=>Ye P w h p zs
theorem Nf{p:Addr}(x:Ye P w h p zs):ZB P w H h p (hST P w p zs) :=
 ⟨x,let ⟨o,_,_,_,q,_⟩:=x;⟨o,q⟩,λb a y k=>y.moved k⟩
theorem RS:∀ {zs:List Str} {vs:List Value},Zm (zs.map V.str) vs->StrsAre vs zs
 | [],_,.nil=>.nil
 | z::zs,_,.cons r t=>by
  obtain⟨t',rfl⟩:=r
  exact .cons z t' (RS t)
def Ng(P:Program)(w:World)(K:W.Frag):List V->Hp->VK->Prop:=λxs H Q=>∃ (l:Addr) (ns:List Str),xs=[.ref l]/\SqL K H l (ns.map V.str)/\ns.length<=4000/\∀ p zs,H p=none->zs.Nodup->(∀ y,y∈zs↔y∈ns)->zs.length<=ns.length->Q (.ref p) (upd H p (hST P w p zs))
theorem GF(G:X.prog=P)(hw:X.w=w)(hK:X.K=K)(F:X.calm=true):Z1 X (.type "set") (Ng P w K):=by
 subst G hw hK
 intro i s J H xs us Q I r h
 obtain⟨l,ns,rfl,y,hz,q⟩:=h
 obtain⟨u,rfl,v⟩:=r.one
 cases (show u=Value.ref l from v)
 obtain⟨f,p,x,_⟩:=I.list y
 have m:=RS p
 have C:f.toArray.size=ns.length:=by rw[size_toArray];exact XY m
 refine Gr (I.ok.hd F) x.isList (by simpa using m) (by rw[C];unfold scanBound;omega) λh' n a j B g E=>?_
 have A:H s.heap.objs.size=none:=I.hok.fresh (Nat.le_refl _)
 have c:a.Nodup:=by obtain⟨_,_,_,_,_,_,_,_,_,c,_⟩:=j;exact c
 exact⟨.ref s.heap.objs.size,_,I.laid (t':=n) (o:=hST X.prog X.w s.heap.objs.size a) (λb o e=>E b o (Heap.lt_size e) e) (Nat.le_refl _) (Nf j),rfl,q _ a A c B g⟩
theorem GG{Q:VK}{c:List Value}{d:Drawn}(w:Inv X pins σ H { s with heap:=h',toks:=tk,drawn:=d })(h:StrsAre c zs)(g:zs.length<64)
  (q:∀ p (ys:List Str),H p=none->ys.Perm zs->sortedS ys=true->Q (.ref p) (upd H p (.lst (ys.map V.str)))) :
  wpAny (model X.prog X.w) X.A.in1 (do
   let l <- newList c
   let _ <- holding [l] (call (.builtin "list.sort") [l] [])
   ret l) (λfin s'=>∃ v,fin=.done (.ret v)/\EP X pins σ Q v s') E { s with heap:=h',toks:=tk,drawn:=d }:=by
 have n:c.length=zs.length:=XY h
 refine wpAny_bind (wpAny_newList ?_ (by rw[n,sizeLine_eq];omega))
 have f:(h'.push (seqObj "list" c.toArray 0)).get? h'.objs.size=some (seqObj "list" c.toArray 0):=Heap.get?_push_size _ rfl
 show wpAny _ _ _ _ _ { s with heap:=h'.push (seqObj "list" c.toArray 0),toks:=tk,drawn:=d }
 refine wpAny_bind (wpAny_holding (wpAny_call_entry slot_list_sort ⟨_,f,rfl⟩ entry_list_sort (list_sort_treeK strKind_oneLt f h.keysOf (λv₁ v₂ m e=>keyKind_strs (by rw[<- e];exact h)) (by rw[n];exact g) λj G F=>⟨_,rfl,?_⟩) (args_list_sort _)))
 obtain⟨x,B,u,A⟩:=sorted_out_str h G F
 obtain⟨C,y⟩:=sortedHeap_at (vs:=c) (out:=(arrOf j).map (·.2)) f
 refine wpAny_pure ⟨_,rfl,.ref h'.objs.size,_,w.laid (a:=h'.objs.size) (o:=.lst (x.map V.str)) (t':=tk) (λb o i=>?_) (Nat.le_refl _) ⟨?_,_,C,OZ B,by rw[Array.toArray_toList];exact y⟩,rfl,q _ _ (w.hok.fresh (Nat.le_refl _)) u A⟩
 ·have i:h'.get? b=some o:=i
  have r:=Heap.lt_size i
  rw[sortedHeap_old (Nat.ne_of_lt r) (by rw[size_push'];exact Nat.lt_succ_of_lt r)]
  exact Heap.get?_push_of_some _ i
 ·rw[length_map,u.length_eq]
  exact Nat.le_trans (Nat.le_of_lt g) (by rw[sizeLine_eq];decide)
def Nh(P:Program)(w:World):List V->Hp->VK->Prop:=λxs H Q=>∃ (a:Addr) (zs:List Str),xs=[.ref a]/\H a=some (hST P w a zs)/\zs.length<64/\∀ p (ys:List Str),H p=none->ys.Perm zs->sortedS ys=true->Q (.ref p) (upd H p (.lst (ys.map V.str)))
theorem Ni(G:X.prog=P)(hw:X.w=w)(C:X.calm=true):Z1 X (.builtin "sorted") (Nh P w):=by
 subst G hw
 intro b s g H xs us Q I v h
 obtain⟨a,j,rfl,e,c,q⟩:=h
 obtain⟨u,rfl,x⟩:=v.one
 cases x
 have E:Ye X.prog X.w s.heap a j:=(I.hok _ _ e).1
 refine call_function_entry kind_sorted plain_sorted entry_sorted (args_sorted1 _) ?_
 unfold Builtin.«sorted»
 refine wpAny_bind (m:=checkCount "sorted" 1 1 _) (wpAny_pure ?_)
 refine wpAny_bind (GE (A:=X.A.in1) (I.ok.hd C) E λh' r d L i B F f=>?_)
 have M:Inv X b g H { s with heap:=h',toks:=r,drawn:=d }:=I.keptD B
 exact GG M F (by rw[f.length_eq];exact c) λp n y K J=>q p n y (K.trans f) J
end
variable [Tabs]
section
variable{E:FK}{X:Exc->Sl->Prop}{Q:TV->Prop}
theorem Rep.strsL(h:Rep K H v (.list (zs.map .str))):∃ l,v=.ref l/\SqL K H l (zs.map V.str):=by
 cases h with
 | @lst a xs ds c b =>
  refine⟨a,rfl,?_⟩
  have:xs=zs.map V.str:=by
   clear c
   induction zs generalizing xs with
   | nil=>cases b;rfl
   | cons k ks e=>cases b with
    | cons r rs=>rw[Rep.str_inv r,e rs];rfl
  rw[<- this];exact c
def RU(P:Program)(w:World)(zs:List Str):V->Hp->Prop:=λv H=>∃ p,v=.ref p/\H p=some (hST P w p zs)
theorem SR.pushObj{σ:L2.St}{o:HO}(h:SR K H0 σ ρ ts as H)(hl:H l=none)(c:∀ G:Hp,G l=some o->φ (.ref l) G)(j:∀ G1 G2:Hp,Zf G1 G2->φ (.ref l) G1->φ (.ref l) G2):SR K H0 σ ρ (.ref l::ts) (.av (.obj φ)::as) (upd H l o):=by
 obtain⟨⟨p,q,g,f,r,n⟩,e⟩:=h
 have i:p l+q l=0:=by
  rcases Nat.eq_zero_or_pos (p l+q l) with w|w
  ·exact w
  ·obtain⟨_,w,_⟩:=SR.lsts g f l w;rw[hl] at w;cases w
 have a:Zf H (upd H l o):=YQ hl
 have m:Zf (L2.hid H p q) (L2.hid (upd H l o) p q):=W0 a
 refine⟨⟨p,q,g.mono m (λb o _=>a b o),.cons (.av (.obj (p:=λ_=>0) (c _ ?_) j λ_=>rfl)) (f.mono m a) (λb=>by simp),r,n⟩,e.trans a⟩
 unfold L2.hid
 rw[if_pos i]
 exact ZF
theorem GH{a:TV}{ns:List Str}(g:a.data=.list (ns.map .str))(hz:ns.length<=4000)(q:∀ zs:List Str,zs.Nodup->(∀ y,y∈zs↔y∈ns)->zs.length<=ns.length->Q (.av (.obj (RU P w zs))))(na:NR a:=by first|exact NR.av|exact NR.bor):Bi K E X (Ng P w K) [a] Q:=λA n u ts as H vs x s f _ k=>by
 obtain⟨v,rfl,s⟩:=Y5 s f
 have r:=s.top na
 rw[g] at r
 obtain⟨l,rfl,b⟩:=Rep.strsL r
 exact⟨l,ns,rfl,b,hz,λp zs c j i h=>k _ (q zs j i h) _ _ (s.pop.pushObj c (λG e=>⟨p,rfl,e⟩) λG1 G2 m ⟨p',e1,e2⟩=>⟨p',e1,m _ _ e2⟩)⟩
theorem Nj(hz:zs.length<64)(q:∀ ys:List Str,ys.Perm zs->sortedS ys=true->Q (.av (.own (ys.map λz=>.d (.str z))))):Bi K E X (Nh P w) [.av (.obj (RU P w zs))] Q:=λB n u ts as H vs A s i _ c=>by
 obtain⟨v,rfl,s⟩:=Y5 s i
 have:∃ p,v=.ref p/\H p=some (hST P w p zs):=by
  obtain⟨⟨p,q,b,a,y,x⟩,e⟩:=s
  cases a with
  | cons r _ _ =>
   cases r with
   | av r =>
    cases r with
    | obj f _ _ =>
     obtain⟨p',m,j⟩:=f
     exact⟨p',m,Ym _ _ j⟩
 obtain⟨p,rfl,g⟩:=this
 exact⟨p,zs,rfl,g,hz,λp' ys h b a=>c _ (q ys b a) _ _ (((SR.pop s).strs ys).new (by simp) h)⟩
end
theorem GI(b:β)(f:Nat->β->Sem (ForInStep β))(I:Nat->β->Shared->Prop)(Q:β->Shared->Prop)
  (turn:∀ i b s,i<m->I i b s->wpAny M A (f i b) (λr s'=>match r with|.done b=>Q b s'|.yield b=>I (i+1) b s') E s) (fin:∀ b s,I m b s->Q b s) (h:I 0 b s):wpAny M A (forIn [:m] b f) Q E s:=by
 rw[Std.Legacy.Range.forIn_eq_forIn_range']
 simp only[Std.Legacy.Range.size,Nat.sub_zero,Nat.add_sub_cancel,Nat.div_one]
 refine wpAny_forIn_list _ (λa b s'=>∃ i,a=List.range' i (m-i)/\i<=m/\I i b s') _ ?_ ?_ _ _ ⟨0,by simp,Nat.zero_le _,h⟩
 ·rintro x a b s' ⟨i,c,hi,hI⟩
  have j:i<m:=by
   rcases Nat.lt_or_ge i m with h|h
   ·exact h
   ·rw[Nat.sub_eq_zero_of_le h] at c;simp at c
  obtain⟨rfl,g⟩:x=i/\a=List.range' (i+1) (m-(i+1)):=by
   have e:m-i=(m-(i+1))+1:=by omega
   rw[e,List.range'_succ] at c
   injection c with h1 h2
   exact⟨h1,h2⟩
  refine wpAny_mono (turn x b s' j hI) (λr n c=>?_) λ_ _ e=>e
  cases r with
  | done b=>exact c
  | yield b=>exact⟨x+1,g,j,c⟩
 ·rintro b s' ⟨i,c,hi,hI⟩
  have:i=m:=by
   have:=congrArg List.length c
   simp at this
   omega
  exact fin b s' (this▸hI)
theorem GJ(l:Addr)(items:Array Value)(n:Nat)(dd:Option Addr)(sl:Array (Option Value))(x:Value)(e:Value->Bool)(j:Nat)(H:j<items.size)
  (q:e items[j]=true) (p:∀ m (G:m<items.size),m<j->e items[m]=false) :
  Meets (Builtin.«tuple.index» ⟨[.ref l,x],[]⟩)
   (λA R s=>s.heap.get? l=some { cls:=.type "tuple",dict:=dd,data:=.seq items n,slots:=sl }/\(∀ y,y∈items->SeqAt.EqAt A.in1 s y x (e y))/\R (.ok (.ret (.int j s.toks))) { s with toks:=s.toks+1 }) :=
 .of_wp λprog w A R s h=>by
  obtain⟨B,g,d,r,u⟩:=s;obtain⟨C,E,h⟩:=h
  wp_walk using wpAny_loadPart' C,GI _ _ (λi b f=>b.1=none/\f=⟨B,g,d,r,u⟩/\i<=j) _
  case turn =>
   rintro i b f a ⟨F,rfl,c⟩
   have a:i<items.size:=by rw[Nat.min_self] at a;exact a
   rw[Array.getElem?_eq_getElem a]
   refine wpAny_bind (E _ (Array.getElem_mem a) prog w _ _ ?_)
   by_cases v:i=j
   ·subst v
    rw[q]
    wp_walk
    exact⟨_,rfl,h⟩
   ·rw[p i a (by omega)]
    wp_walk
    exact⟨rfl,rfl,by omega⟩
  case fin =>
   rintro⟨J,I⟩ f ⟨F,rfl,c⟩
   rw[Nat.min_self] at c
   omega
  case h =>
   exact⟨rfl,rfl,Nat.zero_le _⟩
def Nk(K:W.Frag):V->List V->Hp->VK->Prop:=λx vs H Q=>∃ (ds:List PyData) (d:PyData) (j:Nat) (v:V),∃ hj:j<ds.length,vs=[v]/\Rep K H x (.tuple ds)/\Rep K H v d/\PyData.canLayAll0 ds=true/\d.canLay0=true/\d.depth<=32/\ds.length<=1000000/\PyData.eqv ds[j] d=true/\(∀ m (hm:m<ds.length),m<j->PyData.eqv ds[m] d=false)/\Q (.int j) H
theorem GK(hK:X.K=K)(hu:X.A.units+64<cLine):MtR X "tuple.index" (Nk K):=by
 subst hK
 intro E s σ H x vs v us Q I N O h
 obtain⟨ds,d,j,v',U,rfl,Y,W,w,J,h5,hz,r,g,q⟩:=h
 obtain⟨u,rfl,P⟩:=O.one
 obtain⟨as,S⟩:=Rep.reads I (by simpa [PyData.canLay0] using w) Y N
 obtain⟨bs,R⟩:=Rep.reads I J W P
 cases S with
 | @tuple a o items n _ as M B A L =>
  obtain⟨cl,C,Z,sl⟩:=o
  replace B:cl=.type "tuple" := B
  replace A:Z=.seq items n:=A
  subst B A
  have f:items.toList.map (SeqAt.readOf s.heap)=ds:=SeqAt.readsAll_map ds _ _ w L
  have hl:items.size=ds.length:=by rw[<- f,length_map,Array.length_toList]
  have e:∀ i (G:i<items.size) (c:i<ds.length),SeqAt.readOf s.heap items[i]=ds[i]:=λi G c=>by
   have:(items.toList.map (SeqAt.readOf s.heap))[i]?=ds[i]?:=by rw[f]
   rw[getElem?_map,getElem?_eq_getElem c,getElem?_eq_getElem (by simpa using G)] at this
   simpa using this
  have b:j<items.size:=by omega
  refine call_meets F.slot_tuple_index ⟨_,M,rfl⟩ F.entry_tuple_index (F.args_tuple_index_2 _ _) (GJ a items n C sl u (λy=>PyData.eqv (SeqAt.readOf s.heap y) d) j b (by rw[e j b U];exact r) λm f p=>by rw[e m f (by omega)];exact g m (by omega) p) ⟨M,λy T=>?_,⟨.int j,H,I.tok _,⟨_,rfl⟩,q⟩⟩
  exact SeqAt.items_eqAt L R w J (by have:=Nat.min_le_right (PyData.depthAll ds) d.depth;omega) y T
def Nl(r:V->List V->Hp->VK->Prop)(to:TE)(t:TA):TE:=λσ H Q=>to σ H λx H1=>(∃ p xs,x=.ref p/\H1 p=some (.tup xs))/\t σ H1 λxs H2=>r x xs H2 Q
theorem GL{o:Expr}{t:TA}{id:String}{r:V->List V->Hp->VK->Prop}(slot:Slot "tuple" name id)(q:typeOf (.builtin id)=pure (.type "method_descriptor"))(B:MtR X id r)(A:PE X o to)(E:PA X (e::es) t)
  (i:attributeBase o name X.env (eval o X.env)=eval o X.env:=by rfl)
  (m:((backTo cpos (starEach (e::es) X.env)).all (λx=>!x.1) && (backToKw cpos (keywordEach [] X.env)).all (λx=>x.1.isSome)
   && decide ((e::es).length+([]:List Keyword).length+(if ([]:List Keyword).isEmpty then 0 else 1)<30))=true:=by rfl)
  (g:(apos.endLine == cpos.line)=true:=by rfl) (y:starEach (e::es) X.env=(false,eval e X.env)::starEach es X.env:=by rfl) (f:(backTo cpos (starEach es X.env)).any (·.1)=false:=by rfl) :
  PE X (.Call (.Attribute o name apos) (e::es) [] cpos) (Nl r to t):=by
 intro b s n H Q I h
 refine wpAny_Call_method_late i m g rfl (thn (A b s n H _ I h) λv s1 ⟨x,H1,I1,r1,⟨p,ys,ex,hp⟩,q1⟩=>?_)
 have ⟨h1,h2⟩:s1.TypeIs v "tuple" /\ ∀ a,v=.ref a->∃ j,s1.heap.get? a=some j/\j.dict=none:=by
  subst ex
  cases r1
  obtain⟨_,w,_,j,e,c,_,C⟩:=(show ZB X.prog X.w H1 s1.heap p (.tup ys) from I1.hok p _ hp)
  exact⟨⟨j,e,c⟩,λa G=>by cases G;exact⟨j,e,C⟩⟩
 refine⟨"tuple",id,F.plainAttrs_tuple,slot,q,h1,h2,?_⟩
 have u:=E cpos b s1 n H1 _ I1 q1
 rw[y] at u ⊢
 refine Calls.callWith_builtin (by show (false || (backTo cpos (starEach es X.env)).any (·.1))=false;rw[f]<;>rfl) (Calls.evalArgs_plain ?_)
 exact thn u λus s2 ⟨vs,H2,I2,r2,q2⟩=>B b s2 n H2 x vs v us Q I2 r1 r2 q2
variable [Tabs]
section
variable{E:FK}{X:Exc->Sl->Prop}{Q:TV->Prop}{a:TV}
theorem GM[DecidableEq α](F:Enc f m)(h:Ev K E X te ρ λa=>∃ xs:List α,a.data=.tuple (xs.map f)/\NR a/\xs.length<=1000000/\Ev K E X ti ρ λb=>∃ c,b.data=f c/\NR b/\c∈xs/\Q (.av (.d (.int (xs.idxOf c:Nat)))))(I:m<=32:=by decide) :
  Ev K E X (Nl (Nk K) te (YZ ti YL)) ρ Q:=λB n ts as H L s x k =>
 h B n ts as H _ s x λa ⟨xs,ha,na,hz,h2⟩ v H1 s1=>by
  have y:=s1.top na
  rw[ha] at y
  have C:∃ p g,v=.ref p/\H1 p=some (.tup g):=by
   obtain⟨p,g,e,G,_⟩:=y.tuple_at
   exact⟨p,g,e,G⟩
  refine⟨C,h2 B n _ _ H1 _ s1 x λb ⟨c,hb,nb,hc,q⟩ w H2 s2=>?_⟩
  have u:=s2.top nb
  have r:=s2.pop.top na
  rw[hb] at u
  rw[ha] at r
  have J:=idxOf_lt_length_of_mem hc
  refine⟨xs.map f,f c,xs.idxOf c,w,by rw[length_map];exact J,rfl,r,u,Ta F xs,F.lay c,Nat.le_trans (F.dep c) I,by rw[length_map];exact hz,?_,λi A j=>?_,k _ q _ _ (s2.pop.pop.int _)⟩
  ·rw[getElem_map,getElem_idxOf]
   exact (F.eqv c c).mpr rfl
  ·rw[getElem_map]
   rw[length_map] at A
   have ne:xs[i]≠c:=OT A j
   cases z:PyData.eqv (f xs[i]) (f c) with
   | false=>rfl
   | true=>exact absurd ((F.eqv _ _).mp z) ne
end
theorem GN{items:Array Value}{ns:List Str}
  (hh:A.handled=none) (hl:s.heap.IsTuple l items) (hi:StrsAre items.toList ns) (hb:items.size+1<scanBound)
  (h:∀ (h':Heap) (tk:Nat) (zs:List Str),Ye P w h' s.heap.objs.size zs->(∀ y,y∈zs↔y∈ns)->zs.length<=ns.length ->
   (∀ b o,b<s.heap.objs.size->s.heap.get? b=some o->h'.get? b=some o)->Q (.ref s.heap.objs.size) { s with heap:=h',toks:=tk }) :
  wpAny (model P w) A (call (.type "set") [.ref l]) Q E s:=by
 have hlen:items.size=ns.length:=by have:=XY hi;rwa [Array.length_toList] at this
 have B:∀ y,(∃ j,j<items.size/\y=ns.getD j Str.empty)↔y∈ns:=λy=>by
  constructor
  ·rintro⟨j,hj,rfl⟩
   rw[getD_eq_getElem?_getD,getElem?_eq_getElem (by omega)]
   exact getElem_mem _
  ·intro hy
   obtain⟨j,hj,rfl⟩:=List.getElem_of_mem hy
   exact⟨j,by omega,by rw[getD_eq_getElem?_getD,getElem?_eq_getElem hj];rfl⟩
 obtain⟨c,tl,hmro⟩:=PySem.F.called_set.mro
 have T:=PySem.F.called_set.made
 have hsub:=PySem.F.called_set.sub
 refine wpAny_call (codeAny_of_tree ?_)
 show wpAny _ _ (callAny (.type "set") _) _ _ _
 refine wpAny_pure ⟨Code.quiet_builtin _ (by decide +kernel),codeAny_builtin PySem.F.entry_type_call ?_⟩
 rw[Around.under_plain (weight_type_call_type "set" [.ref l] []) rfl]
 have h1:=PySem.F.called_set.notType
 have h2:=PySem.F.called_set.canCreate
 have hct:=PySem.F.typeCall_set_1 (.ref l)
 repeat (any_goals (first|assumption|wp_step))
 refine codeAny_mono (O5 (.ref l) (E:=E) (Q₁:=λn s₁=>n=.ref s.heap.objs.size/\s₁={ s with heap:=s.heap.push { cls:=.type "set",dict:=none,data:=.set #[] 0 (.fresh 0 0 (!byT w)) } }) ⟨rfl,rfl⟩) λr s₁ S=>?_
 cases r with
 | error e=>exact S
 | ok fl =>
  cases fl with
  | ret n =>
   obtain⟨rfl,rfl⟩:=S
   have hS:(s.heap.push { cls:=.type "set",dict:=none,data:=.set #[] 0 (.fresh 0 0 (!byT w)) }).get? s.heap.objs.size=some { cls:=.type "set",dict:=none,data:=.set #[] 0 (.fresh 0 0 (!byT w)) }:=Heap.get?_push_size _ rfl
   have hT:Shared.TypeIs { s with heap:=s.heap.push { cls:=.type "set",dict:=none,data:=.set #[] 0 (.fresh 0 0 (!byT w)) } } (.ref s.heap.objs.size) "set" := ⟨_,hS,rfl⟩
   have hli:=PySem.F.called_set.init.lookup
   have hbi:=PySem.F.called_set.init.bind (.ref s.heap.objs.size)
   repeat (any_goals (first|assumption|wp_step))
   refine codeAny_mono (codeAny_call_builtin (R:=wants (λr s₂=>r=.none/\∃ h' tk zs,s₂={ s with heap:=h',toks:=tk } /\
     Ye P w h' s.heap.objs.size zs/\(∀ y,y∈zs↔y∈ns)/\zs.length<=ns.length /\
     (∀ b o,b<s.heap.objs.size->s.heap.get? b=some o->h'.get? b=some o)) E) PySem.F.called_set.init.plain PySem.F.entry_set_init (check_set_init_1 hT ?_)) λr₂ s₂ hr₂=>?_
   ·obtain⟨ol,u,J,nl,I⟩:=hl
    obtain⟨ocls,f,O,a⟩:=ol
    simp only at J I
    subst J;subst I
    have q:(s.heap.push { cls:=.type "set",dict:=none,data:=.set #[] 0 (.fresh 0 0 (!byT w)) }).get? l=some { cls:=.type "tuple",dict:=f,data:=.seq items nl,slots:=a }:=Heap.get?_push_of_some _ u
    have hsls:=PySem.F.sub_tuple_set
    have hslf:=PySem.F.sub_tuple_frozenset
    have hne:(Value.type "tuple" == Value.type "dict")=false:=by decide
    have G:(s.heap.push { cls:=.type "set",dict:=none,data:=.set #[] 0 (.fresh 0 0 (!byT w)) }).IsTuple l items:=⟨_,q,rfl,nl,rfl⟩
    unfold Builtin.«set.__init__» noKeywords Builtin.Frozenset.updateFrom
    generalize hPI:pyIter=PI
    wp_walk
    subst hPI
    refine wpAny_pyIter_tuple G ?_
    refine wpAny_bind (wpAny_runValue ?_)
    have F:l<s.heap.objs.size:=Heap.lt_size u
    have W:A.in1.in1.in1.handled=none:=by simp[hh]
    have x:l≠(s.heap.push { cls:=.type "set",dict:=none,data:=.set #[] 0 (.fresh 0 0 (!byT w)) }).objs.size:=by
     rw[Heap.size_push];exact Nat.ne_of_lt (Nat.lt_succ_of_lt F)
    have Z:s.heap.objs.size∉[(s.heap.push { cls:=.type "set",dict:=none,data:=.set #[] 0 (.fresh 0 0 (!byT w)) }).objs.size,l]:=by
     rw[Heap.size_push];simp only[mem_cons,mem_singleton,not_mem_nil,or_false,not_or]
     exact⟨Nat.ne_of_lt (Nat.lt_succ_self _),Nat.ne_of_gt F⟩
    have p:∀ (i:Nat) (v:Value),items[i]?=some v->∃ t,v=.str ((λi=>ns.getD i Str.empty) i) t:=λi v hv =>
     RQ hi i v (by rw[Array.getElem?_toList];exact hv)
    refine O6 ((Walks.tuple W _ l x items).toS) s.heap.objs.size
     Z (λi=>ns.getD i Str.empty) p hb (items.size-0) 0 _ [] (by omega) (Nat.zero_le _)
     ⟨⟨_,Heap.get?_push_size _ rfl,rfl,rfl⟩,(G.push _)⟩ ?hS0 (Nat.le_refl _) (λy=>by simp) ?hR
    case hS0 =>
     have H:((s.heap.push { cls:=.type "set",dict:=none,data:=.set #[] 0 (.fresh 0 0 (!byT w)) }).push { cls:=.type "tuple_iterator",data:=.fields #[.ref l,.int 0 0] }).get? s.heap.objs.size
       = some { cls:=.type "set",dict:=none,data:=.set #[] 0 (.fresh 0 0 (!byT w)) }:=Heap.get?_push_of_some _ hS
     exact⟨_,#[],0,_,H,⟨rfl,rfl,rfl⟩,rfl,λe he=>by simp at he,.nil,.nil,by decide,by rfl,rfl,λz=>absurd rfl z⟩
    case hR =>
     intro s' L K m g C
     obtain⟨h',g',d',M,N⟩:=s'
     have eg:g'=s.gens:=K.gens
     have ed:d'=s.drawn:=K.drawn
     have eo:N=s.os:=K.os
     subst eg;subst ed;subst eo
     show wpAny _ _ _ _ _ _
     refine wpAny_pure ?_
     show wpAny _ _ (ret Value.none) _ _ _
     refine wpAny_pure ⟨rfl,h',M,L,rfl,m,λy=>(g y).trans (B y),by omega,λb o hb e=>?_⟩
     have Y:b≠s.heap.objs.size:=Nat.ne_of_lt hb
     have X:b≠(s.heap.push { cls:=.type "set",dict:=none,data:=.set #[] 0 (.fresh 0 0 (!byT w)) }).objs.size:=by
      rw[Heap.size_push];exact Nat.ne_of_lt (Nat.lt_succ_of_lt hb)
     exact K.heap b o (by simp only[mem_cons,mem_singleton,not_mem_nil,or_false,not_or];exact⟨Y,X⟩) (Heap.get?_push_of_some _ (Heap.get?_push_of_some _ e))
   ·cases r₂ with
    | error e=>exact hr₂
    | ok fl₂ =>
     cases fl₂ with
     | ret r =>
      obtain⟨rfl,h',tk,zs,rfl,m,g,C,U⟩:=hr₂
      repeat (any_goals (first|assumption|wp_step))
      exact h _ _ _ m g C U
     | _=>exact hr₂.elim
  | _=>exact S.elim
def Nm(P:Program)(w:World):List V->Hp->VK->Prop:=λxs H Q=>∃ (l:Addr) (ns:List Str),xs=[.ref l]/\H l=some (.tup (ns.map V.str))/\ns.length<=4000/\∀ p zs,H p=none->zs.Nodup->(∀ y,y∈zs↔y∈ns)->zs.length<=ns.length->Q (.ref p) (upd H p (hST P w p zs))
theorem GO(G:X.prog=P)(hw:X.w=w)(F:X.calm=true):Z1 X (.type "set") (Nm P w):=by
 subst G hw
 intro i s J H xs us Q I r h
 obtain⟨l,ns,rfl,y,hz,q⟩:=h
 obtain⟨u,rfl,v⟩:=r.one
 cases (show u=Value.ref l from v)
 obtain⟨_,f,p,x⟩:=(show ZB X.prog X.w H s.heap l (.tup (ns.map V.str)) from I.hok l _ y)
 have m:=RS p
 have C:f.toArray.size=ns.length:=by rw[size_toArray];exact XY m
 refine GN (I.ok.hd F) (YX.is x) (by simpa using m) (by rw[C];unfold scanBound;omega) λh' n a j B g E=>?_
 have A:H s.heap.objs.size=none:=I.hok.fresh (Nat.le_refl _)
 have c:a.Nodup:=by obtain⟨_,_,_,_,_,_,_,_,_,c,_⟩:=j;exact c
 exact⟨.ref s.heap.objs.size,_,I.laid (t':=n) (o:=hST X.prog X.w s.heap.objs.size a) (λb o e=>E b o (Heap.lt_size e) e) (Nat.le_refl _) (Nf j),rfl,q _ a A c B g⟩
variable [Tabs]
section
variable{E:FK}{X:Exc->Sl->Prop}{Q:TV->Prop}
theorem Rep.strsT(h:Rep K H v (.tuple (zs.map .str))):∃ l,v=.ref l/\H l=some (.tup (zs.map V.str)):=by
 obtain⟨a,xs,e,f,rs⟩:=h.tuple_at
 refine⟨a,e,?_⟩
 have b:∀ (zs:List Str) (xs:List V),Reps K H xs (zs.map .str)->xs=zs.map V.str:=by
  intro zs
  induction zs with
  | nil=>intro xs rs;cases rs;rfl
  | cons k ks c=>intro xs rs;cases rs with
   | cons r rs=>rw[Rep.str_inv r,c _ rs];rfl
 have this:=b zs xs rs
 rw[<- this];exact f
theorem GP{a:TV}{ns:List Str}(g:a.data=.tuple (ns.map .str))(hz:ns.length<=4000)(q:∀ zs:List Str,zs.Nodup->(∀ y,y∈zs↔y∈ns)->zs.length<=ns.length->Q (.av (.obj (RU P w zs))))(na:NR a:=by first|exact NR.av|exact NR.bor):Bi K E X (Nm P w) [a] Q:=λA n u ts as H vs x s f _ k=>by
 obtain⟨v,rfl,s⟩:=Y5 s f
 have r:=s.top na
 rw[g] at r
 obtain⟨l,rfl,b⟩:=Rep.strsT r
 exact⟨l,ns,rfl,b,hz,λp zs c j i h=>k _ (q zs j i h) _ _ (s.pop.pushObj c (λG e=>⟨p,rfl,e⟩) λG1 G2 m ⟨p',e1,e2⟩=>⟨p',e1,m _ _ e2⟩)⟩
end
def ZN(K:W.Frag)(x:Str)(st:Stmt):Prop:=∃ (f:Addr) (oc od kV doc pm an cd ct sl:_),W.nsIn K mainGlobals x=some (some (.ref f))/\K.lookup f=some ⟨oc,od,.func (PySem.W.fnOf x x (ZP st) (Zv st) (Zd st) .none kV doc pm an cd ct),sl⟩/\W.codeIn K cd x=true/\W.keepIn K (.ref f)=true
theorem GQ{f:Addr}{oc od kV doc pm an cd ct sl}(a:W.nsIn K mainGlobals x=some (some (.ref f)))(l:K.lookup f=some ⟨oc,od,.func (PySem.W.fnOf x x (ZP st) (Zv st) (Zd st) .none kV doc pm an cd ct),sl⟩)(c:W.codeIn K cd x=true)(k:W.keepIn K (.ref f)=true):ZN K x st:=⟨_,_,_,_,_,_,_,_,_,_,a,l,c,k⟩
theorem ZT(X:K.In h)(G:h.Ns mainGlobals mg)(d:ZN K x st)
  (hb:∀ kV doc pm an cd ct (us:List Value),us.length=ps.length->bindArgs (PySem.W.fnOf x x (ZP st) (Zv st) (Zd st) .none kV doc pm an cd ct) ⟨us,[]⟩=pure (ps.zip us)):Tx K mg x st ps [[]] :=
 let ⟨_,_,_,_,_,_,_,_,_,_,a,l,c,k⟩:=d
 KU X G a l c k (hb _ _ _ _ _ _)
def Nn(K:W.Frag):List V->Hp->VK->Prop:=λxs H Q=>∃ (l:Addr) (ns:List Int),xs=[.ref l]/\SqL K H l (ns.map V.int)/\Q (.int ns.sum) H
theorem GR(hK:X.K=K)(w:X.calm=true):Z1 X (.builtin "sum") (Nn K):=by
 subst hK
 intro b s x H xs us Q I j h
 obtain⟨l,ns,rfl,r,q⟩:=h
 obtain⟨u,rfl,m⟩:=j.one
 cases m
 obtain⟨p,rs,n,hz⟩:=I.list r
 have f:=L9 rs
 obtain⟨g,e⟩:=f.allInts.items
 have c:=n.isList
 rw[e] at c
 have a:PySem.numsOf (intItems g).toList=ns:=by rw[<- e];exact f.numsOf
 rw[nums_intItems] at a
 refine sum_intListG (I.ok.hd w) c λh' i t' v=>⟨.int ns.sum,H,I.kept (t':=i) v,⟨t',?_⟩,q⟩
 rw[preSum_eq,a,List.take_of_length_le (by rw[<- a];simp)]
theorem GS(n:X.calm=true):Z1 X (.builtin "max") (λxs H Q=>∃ i j k,xs=[.int i,.int j,.int k]/\Q (.int (max (max i j) k)) H):=by
 intro b s p H xs us Q I r h
 obtain⟨i,j,k,rfl,q⟩:=h
 cases r with
 | cons g r =>
 cases r with
 | cons f r =>
 cases r with
 | cons e r =>
 cases r
 obtain⟨t,rfl⟩:=g
 obtain⟨t',rfl⟩:=f
 obtain⟨t2,rfl⟩:=e
 refine max_three_ints (I.ok.hd n) λh' u m=>⟨_,H,I.kept m,?_,q⟩
 by_cases c:j > i
 ·rw[if_pos c]
  by_cases a:k > j
  ·rw[if_pos a,show max (max i j) k=k by omega];exact⟨_,rfl⟩
  ·rw[if_neg a,show max (max i j) k=j by omega];exact⟨_,rfl⟩
 ·rw[if_neg c]
  by_cases a:k > i
  ·rw[if_pos a,show max (max i j) k=k by omega];exact⟨_,rfl⟩
  ·rw[if_neg a,show max (max i j) k=i by omega];exact⟨_,rfl⟩
variable [Tabs]
section
variable{E:FK}{X:Exc->Sl->Prop}{Q:TV->Prop}{a:TV}
theorem GT(e:a.data=.list (ns.map .int))(q:Q (.av (.d (.int ns.sum))))(na:NR a:=by first|exact NR.av|exact NR.bor):Bi K E X (Nn K) [a] Q:=λj g h ts as H vs i s c _ k=>by
 obtain⟨v,rfl,s⟩:=Y5 s c
 have r:=s.top na
 rw[e] at r
 obtain⟨l,xs,rfl,b,f⟩:=r.list_inv
 rw[Reps.ints_inv f] at b
 exact⟨l,ns,rfl,b,k _ q _ H (s.pop.int _)⟩
theorem GU{i j m:Int}(q:Q (.av (.d (.int (max (max i j) m))))):Bi K E X (λxs H Q=>∃ i j k,xs=[.int i,.int j,.int k]/\Q (.int (max (max i j) k)) H) [.av (.d (.int i)),.av (.d (.int j)),.av (.d (.int m))] Q:=λn b c ts as H vs p s e _ k=>by
 match vs,e with
 | [v,w,y],_ =>
  have a:SR K n b c (v::w::y::ts) (.av (.d (.int i))::.av (.d (.int j))::.av (.d (.int m))::as) H:=s
  have h:=a.top_d.int_inv
  have g:=a.pop.top_d.int_inv
  have f:=a.pop.pop.top_d.int_inv
  subst h g f
  exact⟨i,j,m,rfl,k _ q _ _ (a.pop.pop.pop.int _)⟩
end
theorem No{items:Array Value}(x:h.IsList a items)(k:Heap.ExtBut b h h')(n:a≠b):h'.IsList a items:=let ⟨o,e,r⟩:=x;⟨o,k a o n e,r⟩
theorem Np{it t:Addr}{items:Array Value}(a:t≠it):∀ (n i:Nat) (s:Shared) (Q:List Value->Shared->Prop),s.heap.IsListIter it t i->s.heap.IsList t items->i+n<=items.size ->
  (∀ h',h'.IsListIter it t (i+n)->Heap.SameBut it s.heap h'->Q ((items.toList.drop i).take n) { s with heap:=h' })->wpAny (model prog w) A (draw (.ref it) n) Q E s
 | 0,i,s,Q,hit,_,_,hQ=>by
  show wpAny _ _ (pure []) Q E s
  exact wpAny_pure (by simpa using hQ s.heap hit (Heap.SameBut.refl ..))
 | n+1,i,s,Q,hit,ht,hle,hQ=>by
  have b:i<items.size:=by omega
  show wpAny _ _ (pyNext (.ref it) >>= _) Q E s
  refine wpAny_bind (wpAny_pyNext_list_item hit ht (x:=items[i]) (by simp[b]) λh₁ hit₁ hs₁=>?_)
  refine wpAny_bind (wpAny_holding (Np a n (i+1) _ _ hit₁ (No ht hs₁.extBut a) (by omega) λh₂ hit₂ hs₂=>wpAny_pure ?_))
  have c:items.toList.drop i=items[i]::items.toList.drop (i+1):=by simp[List.drop_eq_getElem_cons,b]
  have:=hQ h₂ (by rw[show i+(n+1)=i+1+n by omega];exact hit₂) (hs₁.trans hs₂)
  rw[c,List.take_succ_cons] at this
  exact this
theorem GV{a:List Expr}{x1}{t:Addr}{items:Array Value}{Q:Unit->Shared->Prop}(p:A.handled=none)(i:s.heap.IsList t items)
  (hn:(assignEach a env).length=items.size) (c:(assignEach a env).findIdx? (·.1)=none)
  (h:∀ h',Heap.ExtBut s.heap.objs.size s.heap h'->wpAny (model prog w) A (assignInOrder ((assignEach a env).map (·.2)) items.toList) Q E { s with heap:=h' }) :
  wpAny (model prog w) A (assign (.Tuple a x1 pos) env (.ref t)) Q E s:=by
 rw[assign_Tuple]
 refine wpAny_bind (wpAny_standAt ?_)
 have f:t≠s.heap.objs.size:=by obtain⟨o,n,_⟩:=i;exact Nat.ne_of_lt (Heap.lt_size n)
 unfold unpack
 rw[hn,c]
 refine wpAny_bind (wpAny_holding ?_)
 unfold unpackItems
 refine wpAny_bind ?_
 unfold notIterableAtAll
 refine wpAny_bind (wpAny_specialOf i.typeIs slot_list_iter.lookup ?_)
 refine wpAny_pure ?_
 simp only[Bool.false_eq_true,if_false]
 have j:(s.heap.push { cls:=.type "list_iterator",data:=.fields #[.ref t,.int 0 0] }).IsList t items:=let ⟨o,e,r⟩:=i;⟨o,Heap.get?_push_of_some _ e,r⟩
 refine wpAny_bind (wpAny_holding (wpAny_pyIter_list i ?_))
 refine wpAny_bind (wpAny_holding (Np f items.size 0 _ _ ⟨_,Heap.get?_push_size _ rfl,rfl,rfl⟩ j (by omega) λh₁ hit₁ hs₁=>?_))
 have g:List.take items.size (List.drop 0 items.toList)=items.toList:=by
  rw[List.drop_zero];exact List.take_of_length_le (by simp)
 rw[g]
 rw[if_neg (by simp)]
 refine wpAny_bind (wpAny_holding (wpAny_pyNext_list_end p hit₁ (No j hs₁.extBut f) (by simp) λh₂ he₂=>?_))
 simp only[Option.isSome_none,Bool.false_eq_true,if_false]
 exact wpAny_pure (h h₂ λb o m e=>he₂ b o m (hs₁.extBut b o m (Heap.get?_push_of_some _ e)))
def gLst(K:W.Frag)(n:Nat)(t:TGs):TG:=λv σ H Q=>∃ a xs,v=.ref a/\SqL K H a xs/\xs.length=n/\t xs σ H Q
theorem GW{k:Nat}{t:TGs}(hK:X.K=K)(C:X.calm=true)(h:PGs X es t)
  (hn:(assignEach es X.env).length=n:=by rfl) (g:(assignEach es X.env).findIdx? (·.1)=none:=by rfl):PG X (.Tuple es k pos) (gLst K n t):=by
 subst hK
 intro c s j H v u Q I r f
 obtain⟨a,xs,E,x,A,f⟩:=f
 subst E
 cases r
 obtain⟨q,p,⟨o,m,y,i,_,B⟩,hz⟩:=I.list x
 refine GV (I.ok.hd C) ⟨o,y,i,m,B⟩ (by simp[hn,<- A,p.length]) g λh' w=>?_
 have F:Inv X c j H { s with heap:=h' }:=I.kept (t':=s.toks) λb o e=>w b o (Nat.ne_of_lt (Heap.lt_size e)) e
 exact h c _ j H xs _ Q F (by simpa using p) f
variable [Tabs]
section
variable{E:FK}{X:Exc->Sl->Prop}{Q:TV->Prop}{k:Nat}
theorem GX(h:Ev K E X te ρ λa=>∃ x y z,a=.av (.own [.d x,.d y,.d z])/\DV.nx (((ρ.set i (some (.d x))).set j (some (.d y))).set k (some (.d z))))(hi:i<ρ.length:=by simp)(B:j<ρ.length:=by simp)(A:k<ρ.length:=by simp):Sv K E X (Yc te (gLst K 3 (Vq (ZR i) (Vq (ZR j) (Vq (ZR k) Sy))))) ρ DV:=λI b ts as H D J s x f =>
 h I b ts as H _ s x λa ⟨x,y,z,ea,q⟩ v H1 s1=>by
  subst ea
  obtain⟨vs,⟨l,rfl,w⟩,u,p⟩:=s1.frzT.items (es:=[x,y,z]) (.inl rfl) (λxs=>∃ l,v=.ref l/\SqL K H1 l xs) (λG r c=>by
   obtain⟨l,xs,e,F,C⟩:=Rep.list_inv (ds:=[x,y,z]) r
   exact⟨xs,⟨l,e,c.seq F⟩,C⟩) NR.av
  match vs,u with
  | [v1,v2,v3],_ =>
   have n:=SR.store (i:=i) (ts:=v2::v3::ts) (as:=.av (.d y)::.av (.d z)::as) p hi
   have m:=SR.store (i:=j) (ts:=v3::ts) (as:=.av (.d z)::as) n (by simpa using B)
   have g:=SR.store (i:=k) (ts:=ts) (as:=as) m (by simpa using A)
   exact⟨l,[v1,v2,v3],rfl,w,rfl,v1,[v2,v3],rfl,v2,[v3],rfl,v3,[],rfl,rfl,f.nx _ q _ _ g⟩
theorem GY{cap:List (Option Nat)}{A:TA}(h:Ea K E X A ρ λbs=>∃ (m j:Int) (I:Nat->List AV->Prop),bs=[.av (.d (.int m)),.av (.d (.int j))]/\(-(2 ^ 62)<=m/\m<=1000000/\-(2 ^ 62)<=j/\j<=1000000/\j-m<=1000000)/\I 0 [] /\
  (∀ (i:Nat) ys,i<(j-m).toNat->I i ys->Gv K g (.int (m+i)) (ZC cap ρ) λf=>Wk f (ZC cap ρ)/\Tv K E NE tt f λb=>if b=true then Ev K E NE te f λa=>∃ c,a.sto=some c/\I (i+1) (ys++[c]) else I (i+1) ys) /\
  ∀ ys,I (j-m).toNat ys->∃ a,Got (.own ys) a/\Q a):Ev K E X (Xm cap (SD A) g tt te) ρ Q :=
 Rx (JD λu n ts as H r s x k=>h u n ts as H r s x (λbs q=>by
  obtain⟨m,j,I,e,v,p,turn,fin⟩:=q
  exact k bs ⟨m,j,e,by omega,by omega,I,p,turn,fin⟩))
end
end L2
section
end
section
end
section
end
section
end
section
end
section
end
section
end
section
end
section
end
section
end
section
end
section
end
section
end
section
end
section
end
section
end
section
end
section
end
section
end
section
end
section
end
section
end
section
end
section
end
section
end
section
end
section
end
section
end
section
end
section
end
section
end
section
end
section
end
section
end
section
end
section
end
section
end
section
end
section
end
section
end
section
end
section
end
section
end
section
end
section
end
section
end
section
end
section
end
section
end
section
end
section
end
section
end
section
end
section
end
section
end
section
end
section
end
section
end
section
end
section
end
section
set_option exponentiation.threshold 2000
namespace K35
local macro_rules|`(tactic|omega)=>`(tactic|first|assumption|lia|omega (config:={}))
open PySem L2
def top(i:Nat):Stmt:=PySem.Challenge.pw_figurewheel_k35_whole_equal_roads.main.body.getD i (.Pass ⟨0,0,0,0⟩)
abbrev RV:Stmt:=top 9
theorem GZ:FnScope ["base"] ["base"] (Zd RV):=⟨rfl,rfl,rfl,by decide +kernel,rfl,by decide +kernel,by decide +kernel⟩
abbrev Uu:Stmt:=top 10
theorem TC:FnScope ["place", "base", "figures", "rest"] ["place", "base"] (Zd Uu):=⟨rfl,rfl,rfl,by decide +kernel,rfl,by decide +kernel,by decide +kernel⟩
abbrev Uv:Stmt:=top 11
theorem TD:FnScope ["figures", "base", "number", "figure"] ["figures", "base"] (Zd Uv):=⟨rfl,rfl,rfl,by decide +kernel,rfl,by decide +kernel,by decide +kernel⟩
abbrev RW:Stmt:=top 12
theorem G0:FnScope ["figures", "length"] ["figures", "length"] (Zd RW):=⟨rfl,rfl,rfl,by decide +kernel,rfl,by decide +kernel,by decide +kernel⟩
abbrev Uw:Stmt:=top 13
theorem G3:FnScope ["column", "base"] ["column", "base"] (Zd Uw):=⟨rfl,rfl,rfl,by decide +kernel,rfl,by decide +kernel,by decide +kernel⟩
abbrev Ux:Stmt:=top 14
theorem G4:FnScope ["code", "many", "base"] ["code", "many", "base"] (Zd Ux):=⟨rfl,rfl,rfl,by decide +kernel,rfl,by decide +kernel,by decide +kernel⟩
abbrev RX:Stmt:=top 16
theorem Vd:FnScope ["start", "letters", "lead", "most", "met", "numbers", "rows", "row", "letter", "thing"] ["start", "letters", "lead", "most"] (Zd RX):=⟨rfl,rfl,rfl,by decide +kernel,rfl,by decide +kernel,by decide +kernel⟩
abbrev RY:Stmt:=top 17
theorem Nq:FnScope ["start", "letters", "lead", "sign", "most", "told"] ["start", "letters", "lead", "sign", "most"] (Zd RY):=⟨rfl,rfl,rfl,by decide +kernel,rfl,by decide +kernel,by decide +kernel⟩
abbrev Xa:Stmt:=top 18
theorem Ve:FnScope ["machine", "stands", "rows", "signs", "lead", "sign"] ["machine", "stands"] (Zd Xa):=⟨rfl,rfl,rfl,by decide +kernel,rfl,by decide +kernel,by decide +kernel⟩
abbrev Wt:Stmt:=(Zv Xa).getD 2 (.Pass ⟨0,0,0,0⟩)
theorem G5:FnScopeF ["room", "letter", "stands", "rows"] ["room", "letter"] (Zd Wt):=⟨rfl,rfl,rfl,by decide +kernel,rfl,by decide +kernel⟩
theorem G6:Z4 ["machine", "stands", "rows", "signs", "lead", "sign"] (Zd Xa) (Zd Wt) ["room", "letter", "stands", "rows"] [none,none,some 1,some 2]=true:=by decide +kernel
theorem G7:∀ y∈(Zd Wt).names,y.2=.free->(Zd Xa).names.lookup y.1=some .cell\/(Zd Xa).names.lookup y.1=some .free:=by decide +kernel
abbrev Wu:Stmt:=(Zv Xa).getD 3 (.Pass ⟨0,0,0,0⟩)
theorem G8:FnScopeF ["room", "signs"] ["room"] (Zd Wu):=⟨rfl,rfl,rfl,by decide +kernel,rfl,by decide +kernel⟩
theorem G9:Z4 ["machine", "stands", "rows", "signs", "lead", "sign"] (Zd Xa) (Zd Wu) ["room", "signs"] [none,some 3]=true:=by decide +kernel
theorem Fa:∀ y∈(Zd Wu).names,y.2=.free->(Zd Xa).names.lookup y.1=some .cell\/(Zd Xa).names.lookup y.1=some .free:=by decide +kernel
abbrev RZ:Stmt:=top 19
theorem Wv:FnScope ["things", "firsts", "index", "thing"] ["things"] (Zd RZ):=⟨rfl,rfl,rfl,by decide +kernel,rfl,by decide +kernel,by decide +kernel⟩
abbrev R0:Stmt:=top 20
theorem Fb:FnScope ["rows", "alike"] ["rows", "alike"] (Zd R0):=⟨rfl,rfl,rfl,by decide +kernel,rfl,by decide +kernel,by decide +kernel⟩
abbrev R3:Stmt:=top 21
theorem Uy:FnScope ["machine", "alike", "many"] ["machine"] (Zd R3):=⟨rfl,rfl,rfl,by decide +kernel,rfl,by decide +kernel,by decide +kernel⟩
abbrev R4:Stmt:=top 22
theorem Fc:FnScope ["machine"] ["machine"] (Zd R4):=⟨rfl,rfl,rfl,by decide +kernel,rfl,by decide +kernel,by decide +kernel⟩
abbrev R5:Stmt:=top 23
theorem Fd:FnScope ["start", "letters", "lead", "sign", "most"] ["start", "letters", "lead", "sign", "most"] (Zd R5):=⟨rfl,rfl,rfl,by decide +kernel,rfl,by decide +kernel,by decide +kernel⟩
abbrev R6:Stmt:=top 27
theorem Nr:FnScope ["row", "base"] ["row"] (Zd R6):=⟨rfl,rfl,rfl,by decide +kernel,rfl,by decide +kernel,by decide +kernel⟩
abbrev R7:Stmt:=top 30
theorem TF:FnScope ["base", "names", "many", "name"] ["base", "names"] (Zd R7):=⟨rfl,rfl,rfl,by decide +kernel,rfl,by decide +kernel,by decide +kernel⟩
abbrev R8:Stmt:=top 31
theorem Nt:FnScope ["names"] ["names"] (Zd R8):=⟨rfl,rfl,rfl,by decide +kernel,rfl,by decide +kernel,by decide +kernel⟩
abbrev R9:Stmt:=top 32
theorem Ff:FnScope ["base", "names"] ["base", "names"] (Zd R9):=⟨rfl,rfl,rfl,by decide +kernel,rfl,by decide +kernel,by decide +kernel⟩
abbrev Qa:Stmt:=top 33
theorem Uz:FnScope ["base", "names", "part", "spots", "codes", "code", "column"] ["base", "names", "part"] (Zd Qa):=⟨rfl,rfl,rfl,by decide +kernel,rfl,by decide +kernel,by decide +kernel⟩
abbrev Xb:Stmt:=top 34
theorem Ww:FnScope ["base", "one", "one_names", "other", "other_names", "sign", "names", "one_codes", "other_codes", "lead", "pair_sign"] ["base", "one", "one_names", "other", "other_names", "sign"] (Zd Xb):=⟨rfl,rfl,rfl,by decide +kernel,rfl,by decide +kernel,by decide +kernel⟩
abbrev Wx:Stmt:=(Zv Xb).getD 4 (.Pass ⟨0,0,0,0⟩)
theorem Fg:FnScopeF ["pair", "code", "one", "one_codes", "other", "other_codes"] ["pair", "code"] (Zd Wx):=⟨rfl,rfl,rfl,by decide +kernel,rfl,by decide +kernel⟩
theorem Fh:Z4 ["base", "one", "one_names", "other", "other_names", "sign", "names", "one_codes", "other_codes", "lead", "pair_sign"] (Zd Xb) (Zd Wx) ["pair", "code", "one", "one_codes", "other", "other_codes"] [none,none,some 1,some 7,some 3,some 8]=true:=by decide +kernel
theorem Fi:∀ y∈(Zd Wx).names,y.2=.free->(Zd Xb).names.lookup y.1=some .cell\/(Zd Xb).names.lookup y.1=some .free:=by decide +kernel
abbrev Wy:Stmt:=(Zv Xb).getD 5 (.Pass ⟨0,0,0,0⟩)
theorem Fj:FnScopeF ["pair", "sign", "one", "other"] ["pair"] (Zd Wy):=⟨rfl,rfl,rfl,by decide +kernel,rfl,by decide +kernel⟩
theorem Fk:Z4 ["base", "one", "one_names", "other", "other_names", "sign", "names", "one_codes", "other_codes", "lead", "pair_sign"] (Zd Xb) (Zd Wy) ["pair", "sign", "one", "other"] [none,some 5,some 1,some 3]=true:=by decide +kernel
theorem Fl:∀ y∈(Zd Wy).names,y.2=.free->(Zd Xb).names.lookup y.1=some .cell\/(Zd Xb).names.lookup y.1=some .free:=by decide +kernel
abbrev Qb:Stmt:=top 36
theorem Fm:FnScope ["one", "other", "sign"] ["one", "other", "sign"] (Zd Qb):=⟨rfl,rfl,rfl,by decide +kernel,rfl,by decide +kernel,by decide +kernel⟩
abbrev Wz:Stmt:=top 37
theorem Qc:FnScope ["one", "other", "sign"] ["one", "other"] (Zd Wz):=⟨rfl,rfl,rfl,by decide +kernel,rfl,by decide +kernel,by decide +kernel⟩
abbrev WA:Stmt:=(Zv Wz).getD 0 (.Pass ⟨0,0,0,0⟩)
theorem Fn:FnScopeF ["one_sign", "other_sign"] ["one_sign", "other_sign"] (Zd WA):=⟨rfl,rfl,rfl,by decide +kernel,rfl,by decide +kernel⟩
theorem Fo:Z4 ["one", "other", "sign"] (Zd Wz) (Zd WA) ["one_sign", "other_sign"] [none,none]=true:=by decide +kernel
theorem Fq:∀ y∈(Zd WA).names,y.2=.free->(Zd Wz).names.lookup y.1=some .cell\/(Zd Wz).names.lookup y.1=some .free:=by decide +kernel
abbrev WB:Stmt:=top 38
theorem Qd:FnScope ["one", "other", "sign"] ["one", "other"] (Zd WB):=⟨rfl,rfl,rfl,by decide +kernel,rfl,by decide +kernel,by decide +kernel⟩
abbrev WC:Stmt:=(Zv WB).getD 0 (.Pass ⟨0,0,0,0⟩)
theorem Fr:FnScopeF ["one_sign", "other_sign"] ["one_sign", "other_sign"] (Zd WC):=⟨rfl,rfl,rfl,by decide +kernel,rfl,by decide +kernel⟩
theorem Fs:Z4 ["one", "other", "sign"] (Zd WB) (Zd WC) ["one_sign", "other_sign"] [none,none]=true:=by decide +kernel
theorem Ft:∀ y∈(Zd WC).names,y.2=.free->(Zd WB).names.lookup y.1=some .cell\/(Zd WB).names.lookup y.1=some .free:=by decide +kernel
abbrev Qf:Stmt:=top 39
theorem Nu:FnScope ["one", "machine"] ["one"] (Zd Qf):=⟨rfl,rfl,rfl,by decide +kernel,rfl,by decide +kernel,by decide +kernel⟩
abbrev Qh:Stmt:=top 41
theorem Fu:FnScope ["machine"] ["machine"] (Zd Qh):=⟨rfl,rfl,rfl,by decide +kernel,rfl,by decide +kernel,by decide +kernel⟩
abbrev Qi:Stmt:=top 42
theorem Fv:FnScope ["one", "other"] ["one", "other"] (Zd Qi):=⟨rfl,rfl,rfl,by decide +kernel,rfl,by decide +kernel,by decide +kernel⟩
abbrev Qj:Stmt:=top 45
theorem Fw:FnScope ["truth"] ["truth"] (Zd Qj):=⟨rfl,rfl,rfl,by decide +kernel,rfl,by decide +kernel,by decide +kernel⟩
abbrev Qk:Stmt:=top 46
theorem Ql:FnScope ["row", "name", "sign", "base", "told"] ["row", "name", "sign"] (Zd Qk):=⟨rfl,rfl,rfl,by decide +kernel,rfl,by decide +kernel,by decide +kernel⟩
abbrev WD:Stmt:=top 47
theorem TH:FnScope ["row", "name", "other", "second", "base", "sign"] ["row", "name", "other", "second"] (Zd WD):=⟨rfl,rfl,rfl,by decide +kernel,rfl,by decide +kernel,by decide +kernel⟩
abbrev WE:Stmt:=(Zv WD).getD 3 (.Pass ⟨0,0,0,0⟩)
theorem Fx:FnScopeF ["first_sign", "second_sign"] ["first_sign", "second_sign"] (Zd WE):=⟨rfl,rfl,rfl,by decide +kernel,rfl,by decide +kernel⟩
theorem Fy:Z4 ["row", "name", "other", "second", "base", "sign"] (Zd WD) (Zd WE) ["first_sign", "second_sign"] [none,none]=true:=by decide +kernel
theorem Fz:∀ y∈(Zd WE).names,y.2=.free->(Zd WD).names.lookup y.1=some .cell\/(Zd WD).names.lookup y.1=some .free:=by decide +kernel
abbrev Qm:Stmt:=top 48
theorem FD:FnScope ["names", "column", "left", "right"] ["names", "column", "left", "right"] (Zd Qm):=⟨rfl,rfl,rfl,by decide +kernel,rfl,by decide +kernel,by decide +kernel⟩
abbrev Xc:Stmt:=top 49
theorem X0:FnScope ["base", "left", "right", "word", "names", "letters", "gains", "bound", "lead", "sign"] ["base", "left", "right", "word"] (Zd Xc):=⟨rfl,rfl,rfl,by decide +kernel,rfl,by decide +kernel,by decide +kernel⟩
abbrev WF:Stmt:=(Zv Xc).getD 6 (.Pass ⟨0,0,0,0⟩)
theorem FE:FnScopeF ["ahead", "code", "bound", "base", "gains"] ["ahead", "code"] (Zd WF):=⟨rfl,rfl,rfl,by decide +kernel,rfl,by decide +kernel⟩
theorem FF:Z4 ["base", "left", "right", "word", "names", "letters", "gains", "bound", "lead", "sign"] (Zd Xc) (Zd WF) ["ahead", "code", "bound", "base", "gains"] [none,none,some 7,some 0,some 6]=true:=by decide +kernel
theorem FG:∀ y∈(Zd WF).names,y.2=.free->(Zd Xc).names.lookup y.1=some .cell\/(Zd Xc).names.lookup y.1=some .free:=by decide +kernel
abbrev WG:Stmt:=(Zv Xc).getD 7 (.Pass ⟨0,0,0,0⟩)
theorem FH:FnScopeF ["ahead", "word"] ["ahead"] (Zd WG):=⟨rfl,rfl,rfl,by decide +kernel,rfl,by decide +kernel⟩
theorem FI:Z4 ["base", "left", "right", "word", "names", "letters", "gains", "bound", "lead", "sign"] (Zd Xc) (Zd WG) ["ahead", "word"] [none,some 3]=true:=by decide +kernel
theorem FJ:∀ y∈(Zd WG).names,y.2=.free->(Zd Xc).names.lookup y.1=some .cell\/(Zd Xc).names.lookup y.1=some .free:=by decide +kernel
abbrev Xd:Stmt:=top 50
theorem Vf:FnScope ["base", "name", "place", "figures", "astray", "lead", "sign"] ["base", "name", "place"] (Zd Xd):=⟨rfl,rfl,rfl,by decide +kernel,rfl,by decide +kernel,by decide +kernel⟩
abbrev WH:Stmt:=(Zv Xd).getD 3 (.Pass ⟨0,0,0,0⟩)
theorem FL:FnScopeF ["many", "figure", "figures", "astray"] ["many", "figure"] (Zd WH):=⟨rfl,rfl,rfl,by decide +kernel,rfl,by decide +kernel⟩
theorem FM:Z4 ["base", "name", "place", "figures", "astray", "lead", "sign"] (Zd Xd) (Zd WH) ["many", "figure", "figures", "astray"] [none,none,some 3,some 4]=true:=by decide +kernel
theorem FN:∀ y∈(Zd WH).names,y.2=.free->(Zd Xd).names.lookup y.1=some .cell\/(Zd Xd).names.lookup y.1=some .free:=by decide +kernel
abbrev WI:Stmt:=(Zv Xd).getD 4 (.Pass ⟨0,0,0,0⟩)
theorem FO:FnScopeF ["many", "figures"] ["many"] (Zd WI):=⟨rfl,rfl,rfl,by decide +kernel,rfl,by decide +kernel⟩
theorem FP:Z4 ["base", "name", "place", "figures", "astray", "lead", "sign"] (Zd Xd) (Zd WI) ["many", "figures"] [none,some 3]=true:=by decide +kernel
theorem FQ:∀ y∈(Zd WI).names,y.2=.free->(Zd Xd).names.lookup y.1=some .cell\/(Zd Xd).names.lookup y.1=some .free:=by decide +kernel
abbrev Qn:Stmt:=top 52
theorem WJ:FnScope ["_law_script", "_law_k", "_law_cell_here", "_law_number", "_law_whole", "_law_turn"] ["_law_script", "_law_k"] (Zd Qn):=⟨rfl,rfl,rfl,by decide +kernel,rfl,by decide +kernel,by decide +kernel⟩
abbrev Qo:Stmt:=top 53
theorem X1:FnScope ["_law_script", "_law_at", "_law_base", "_law_many", "_law_width", "_law_cell_here", "_law_rows", "_law_signs", "_law_room", "_law_row", "_law_letter"] ["_law_script", "_law_at", "_law_base", "_law_many", "_law_width"] (Zd Qo):=⟨rfl,rfl,rfl,by decide +kernel,rfl,by decide +kernel,by decide +kernel⟩
abbrev Qp:Stmt:=top 54
theorem Xs:FnScope ["_law_cell_here", "_law_letters", "_law_names_here", "_law_turn", "_law_name", "_law_many", "_law_k"] ["_law_cell_here"] (Zd Qp):=⟨rfl,rfl,rfl,by decide +kernel,rfl,by decide +kernel,by decide +kernel⟩
abbrev Qq:Stmt:=top 55
theorem UA:FnScope ["_law_script", "_law_at", "_law_base", "_law_names_here", "_law_rows", "_law_cell_here", "_law_name", "_law_second", "_law_third"] ["_law_script", "_law_at", "_law_base", "_law_names_here", "_law_rows"] (Zd Qq):=⟨rfl,rfl,rfl,by decide +kernel,rfl,by decide +kernel,by decide +kernel⟩
abbrev Qr:Stmt:=top 56
theorem FR:FnScope ["_law_leaf_here", "_law_base", "_law_rows"] ["_law_leaf_here", "_law_base", "_law_rows"] (Zd Qr):=⟨rfl,rfl,rfl,by decide +kernel,rfl,by decide +kernel,by decide +kernel⟩
abbrev Qs:Stmt:=top 57
theorem VS:FnScope ["_law_rows", "_law_name", "_law_second", "_law_found", "_law_sign", "_law_part"] ["_law_rows", "_law_name", "_law_second"] (Zd Qs):=⟨rfl,rfl,rfl,by decide +kernel,rfl,by decide +kernel,by decide +kernel⟩
abbrev Qt:Stmt:=top 58
theorem Qu:FnScope ["_law_base", "_law_name", "_law_second", "_law_less", "_law_same"] ["_law_base", "_law_name", "_law_second"] (Zd Qt):=⟨rfl,rfl,rfl,by decide +kernel,rfl,by decide +kernel,by decide +kernel⟩
abbrev TJ:Stmt:=top 59
theorem XD:FnScope ["_law_script", "_law_head", "_law_base", "_law_names_here", "_law_rows", "_law_a", "_law_b", "_law_c", "_law_name", "_law_second"] ["_law_script"] (Zd TJ):=⟨rfl,rfl,rfl,by decide +kernel,rfl,by decide +kernel,by decide +kernel⟩
def X2:Addr:=142
def Qw(l c:Nat):Str:=if l=(Yb Wt).line/\c=(Yb Wt).col then "reached_by.<locals>.lead" else if l=(Yb Wu).line/\c=(Yb Wu).col then "reached_by.<locals>.sign" else ""
def X3:Addr:=213
def Qx(l c:Nat):Str:=if l=(Yb Wx).line/\c=(Yb Wx).col then "paired.<locals>.lead" else if l=(Yb Wy).line/\c=(Yb Wy).col then "paired.<locals>.pair_sign" else ""
def Vg:Addr:=227
def Nv(l c:Nat):Str:=if l=(Yb WA).line/\c=(Yb WA).col then "both.<locals>.sign" else ""
def Vh:Addr:=234
def Nw(l c:Nat):Str:=if l=(Yb WC).line/\c=(Yb WC).col then "either.<locals>.sign" else ""
def Vi:Addr:=272
def Nx(l c:Nat):Str:=if l=(Yb WE).line/\c=(Yb WE).col then "signs_like.<locals>.sign" else ""
def X4:Addr:=284
def Qy(l c:Nat):Str:=if l=(Yb WF).line/\c=(Yb WF).col then "sums.<locals>.lead" else if l=(Yb WG).line/\c=(Yb WG).col then "sums.<locals>.sign" else ""
def X5:Addr:=289
def Qz(l c:Nat):Str:=if l=(Yb WH).line/\c=(Yb WH).col then "place_is.<locals>.lead" else if l=(Yb WI).line/\c=(Yb WI).col then "place_is.<locals>.sign" else ""
def ts0:List (Addr×(Nat->Nat->Str)):=[(X2,Qw),(X3,Qx),(Vg,Nv),(Vh,Nw),(Vi,Nx),(X4,Qy),(X5,Qz)]
structure Txt(K:W.Frag)(mg:Str->Option Value):Prop where
 g_LEAST_BASE:∃ t,mg "LEAST_BASE" = some (.int 2 t)
 g_GREATEST_BASE:∃ t,mg "GREATEST_BASE" = some (.int 5 t)
 g_MOST_ROOMS:∃ t,mg "MOST_ROOMS" = some (.int 100 t)
 g_MOST_LETTERS:∃ t,mg "MOST_LETTERS" = some (.int 64 t)
 g_MOST_NAMES:∃ t,mg "MOST_NAMES" = some (.int 4 t)
 g_MOST_FIGURES:∃ t,mg "MOST_FIGURES" = some (.int 98 t)
 n_enumerate:mg "enumerate" = none
 n_len:mg "len" = none
 n_list:mg "list" = none
 n_max:mg "max" = none
 n_min:mg "min" = none
 n_range:mg "range" = none
 n_set:mg "set" = none
 n_sorted:mg "sorted" = none
 n_sum:mg "sum" = none
 n_tuple:mg "tuple" = none
 n_zip:mg "zip" = none
 x_want_base:Tx K mg "want_base" RV ["base"] [[]]
 x_figures_of:Tx K mg "figures_of" Uu ["place", "base"] [[],[.int 2]]
 x_number_of:Tx K mg "number_of" Uv ["figures", "base"] [[],[.int 2]]
 x_filled:Tx K mg "filled" RW ["figures", "length"] [[]]
 x_code_of:Tx K mg "code_of" Uw ["column", "base"] [[],[.int 2]]
 x_column_of:Tx K mg "column_of" Ux ["code", "many", "base"] [[],[.int 2]]
 x_met_from:Tx K mg "met_from" RX ["start", "letters", "lead", "most"] [[]]
 x_machine_met:Tx K mg "machine_met" RY ["start", "letters", "lead", "sign", "most"] [[]]
 x_reached_by:∃ c0,TxM K mg "reached_by" Xa ["machine", "stands"] c0 X2
 x_first_equals:Tx K mg "first_equals" RZ ["things"] [[]]
 x_parted:Tx K mg "parted" R0 ["rows", "alike"] [[]]
 x_first_alike:Tx K mg "first_alike" R3 ["machine"] [[]]
 x_least:Tx K mg "least" R4 ["machine"] [[]]
 x_least_met:Tx K mg "least_met" R5 ["start", "letters", "lead", "sign", "most"] [[]]
 x_base_of:Tx K mg "base_of" R6 ["row"] [[]]
 x_letters_for:Tx K mg "letters_for" R7 ["base", "names"] [[]]
 x_rising:Tx K mg "rising" R8 ["names"] [[]]
 x_want_width:Tx K mg "want_width" R9 ["base", "names"] [[]]
 x_codes_within:Tx K mg "codes_within" Qa ["base", "names", "part"] [[]]
 x_paired:∃ c0,TxM K mg "paired" Xb ["base", "one", "one_names", "other", "other_names", "sign"] c0 X3
 x_joined:Tx K mg "joined" Qb ["one", "other", "sign"] [[]]
 x_both:∃ c0,TxM K mg "both" Wz ["one", "other"] c0 Vg
 x_either:∃ c0,TxM K mg "either" WB ["one", "other"] c0 Vh
 x_no:Tx K mg "no" Qf ["one"] [[]]
 x_letters_in:Tx K mg "letters_in" Qh ["machine"] [[]]
 x_want_like:Tx K mg "want_like" Qi ["one", "other"] [[]]
 x_as_sign:Tx K mg "as_sign" Qj ["truth"] [[]]
 x_sign_is:Tx K mg "sign_is" Qk ["row", "name", "sign"] [[]]
 x_signs_like:∃ c0,TxM K mg "signs_like" WD ["row", "name", "other", "second"] c0 Vi
 x_gain_of:Tx K mg "gain_of" Qm ["names", "column", "left", "right"] [[]]
 x_sums:∃ c0,TxM K mg "sums" Xc ["base", "left", "right", "word"] c0 X4
 x_place_is:∃ c0,TxM K mg "place_is" Xd ["base", "name", "place"] c0 X5
 x_law_cell:Tx K mg "_law_cell" Qn ["_law_script", "_law_k"] [[]]
 x_law_machine:Tx K mg "_law_machine" Qo ["_law_script", "_law_at", "_law_base", "_law_many", "_law_width"] [[]]
 x_law_names:Tx K mg "_law_names" Qp ["_law_cell_here"] [[]]
 x_law_leaf:Tx K mg "_law_leaf" Qq ["_law_script", "_law_at", "_law_base", "_law_names_here", "_law_rows"] [[]]
 x_law_leaf_made:Tx K mg "_law_leaf_made" Qr ["_law_leaf_here", "_law_base", "_law_rows"] [[]]
 x_law_by_signs:Tx K mg "_law_by_signs" Qs ["_law_rows", "_law_name", "_law_second"] [[]]
 x_law_orders:Tx K mg "_law_orders" Qt ["_law_base", "_law_name", "_law_second"] [[]]
local macro_rules | `(tactic| walk_at "sd") => `(tactic| first
 | (show (0 : Int) < _; omega)
 | (refine ⟨?_, ?_⟩ <;> omega)
 | exact Or.inl ⟨by omega, by omega⟩
 | exact Or.inr ⟨by omega, by omega⟩
 | exact ⟨by decide, by decide, by decide⟩)
local macro_rules | `(tactic| walk_at "nrs") => `(tactic| (repeat (first | exact NRs.nil | refine NRs.cons (by first | exact NR.av | exact NR.bor) ?_)))
local macro_rules | `(tactic| walk_at "v0") => `(tactic| first | walk_at "v0i" | (with_reducible refine s_if ?_))
local macro_rules | `(tactic| walk_at "v0i") => `(tactic| with_reducible first
 | refine Rc ?_ | refine Jj ?_ | refine Jt ?_ | refine Js ?_ | refine Oc ?_ | refine Ix ?_
 | refine Jg ?_ | refine Jh ?_ | refine Ji ?_ | refine Jk ?_ | refine un_i ?_ | refine IC ?_ | refine Ob ?_ | refine Jl ?_ | refine eq_i ?_ | refine ne_i ?_
 | refine Jw ?_ | refine Od ?_ | refine tv_b ?_ | refine Ju ?_ | refine Jv ?_ | refine Tc ?_
 | refine v_b ?_ | refine v_i ?_ | refine v_s ?_ | refine IM ?_ | refine IX ?_ | refine IV ?_ | refine IO ?_ | refine JP ?_ | refine JQ ?_ | refine iteT ?_ | refine SN ?_ | refine Tg ?_ | refine Ti ?_)
local macro_rules | `(tactic| walk_at "v1") => `(tactic| with_reducible first
 | refine JR ?_ | refine JT ?_ | refine JX ?_ | refine J4 ?_ | refine J6 ?_ | refine Ib ?_ | refine Id ?_ | refine Ii ?_ | refine Im ?_ | refine Ip ?_
 | refine JU ?_ | refine JY ?_ | refine J7 ?_ | refine Ie ?_ | refine Ij ?_
 | refine JS ?_ | refine JV ?_ | refine JZ ?_ | refine J5 ?_ | refine J8 ?_ | refine Ic ?_ | refine Ig ?_ | refine Ik ?_ | refine Io ?_ | refine Iq ?_
 | refine gv_0 ?_ | refine gv_1 ?_ | refine gv_2 ?_ | refine gv_3 ?_ | refine gv_4 ?_ | refine gv_5 ?_ | refine gv_6 ?_ | refine gv_8 ?_ | refine Iu ?_
 | refine J0 ?_ | refine J9 ?_ | refine Ih ?_ | refine Il ?_ | refine Ir ?_
 | refine J3 ?_
 | refine JW ?_ | refine J1 ?_ | refine Ia ?_
 | refine IY ?_ | refine Hc ?_
 | refine IZ ?_ | refine Ha ?_ | refine Hb ?_ | refine Hd ?_ | refine Hf ?_ | refine Hh ?_ | refine Hi ?_ | refine Hj ?_
 )
local macro_rules | `(tactic| walk_at "v") => `(tactic| first | walk_at "v0" | walk_at "v1" | (with_reducible refine Oj ?_) | (with_reducible refine Ol ?_) | (refine S6 ?c ?_; (case c => walk_at "sd")) | (refine On ?c ?_; (case c => walk_at "sd")))
local macro_rules | `(tactic| walk_at "vs") => `(tactic| repeat walk_at "v")
local macro_rules | `(tactic| walk_at "vm") => `(tactic| repeat (first | walk_at "v" | refine YA rfl rfl Zs.d ?_))
local macro_rules | `(tactic| walk_at "vj") => `(tactic| first | walk_at "v0i" | walk_at "v1" | (with_reducible refine Oj ?_) | (with_reducible refine Ol ?_) | (refine S6 ?c ?_; (case c => walk_at "sd")) | (refine On ?c ?_; (case c => walk_at "sd")))
local macro_rules | `(tactic| walk_at "vi") => `(tactic| repeat (first | walk_at "vj" | refine YA rfl rfl Zs.d ?_))
local macro_rules|`(tactic|w_on)=>`(tactic|walk_at "vs")
local macro_rules|`(tactic|o_law)=>`(tactic|walk_at "vm")
local macro_rules|`(tactic|k_head)=>`(tactic|walk_at "vi")
section
variable{K:W.Frag}{mg:Str->Option Value}[Tabs]{P:Program}{w:World}{base:Heap}
abbrev oI(ns:List Int):AV:=.own (ns.map λk=>.d (.int k))
theorem Xe(ns:List Int):(oI ns).data=dI ns:=by rw[AV.data,Yq];rfl
theorem FS(ns:List Int):AV.datas (ns.map λk=>.d (.int k))=ns.map PyData.int:=Yq ns PyData.int
theorem WK(ns:List Int):(oI ns).clean=true:=YR λ_=>rfl
theorem Ny(ns:List Int):(ns.map PyData.int).map AV.d=ns.map λk=>.d (.int k):=by rw[map_map];rfl
abbrev oL(rows:List (List Int)):AV:=.own (rows.map oI)
theorem FT(rows:List (List Int)):(oL rows).data=P0 rows:=by
 rw[Wj]
 unfold P0
 congr 1
 exact map_congr_left λr _=>Xe r
theorem UC(c:List Int):ZE (tI c)=true:=by simp[tI,ZE,Xn]
structure Mach where
 rows:List (List Int)
 signs:List Int
deriving DecidableEq
abbrev tR(rows:List (List Int)):PyData:=.tuple (rows.map tI)
abbrev dM(M:Mach):PyData:=.tuple [tR M.rows,tI M.signs]
structure Good(r l m:Int)(M:Mach):Prop where
 r0:0<r
 l0:0<l
 n:(M.rows.length:Int)=r
 row:∀ x∈M.rows,(x.length:Int)=l/\∀ y∈x,0<=y/\y<r
 s:(M.signs.length:Int)=r
 sg:∀ x∈M.signs,0<=x/\x<m
 z:(M.rows.getD 0 []).getD 0 0=0
theorem FU(rows:List (List Int)):ZE (tR rows)=true:=by
 simp only[tR,ZE]
 exact XR (λa=>UC a) rows
theorem YC(M:Mach):ZE (dM M)=true:=by
 have h:=FU M.rows
 simp only[ZE,noLsts,Bool.and_true,Bool.and_eq_true] at h ⊢
 exact⟨h,Xn _⟩
theorem Mach.enc:Enc dM 3:=by
 have h:=(Enc.int.tuple.tuple).pair (Enc.int.tuple.mono (show 1<=2 by decide))
 refine⟨λa b=>?_,λa=>h.lay (a.rows,a.signs),λa=>h.dep (a.rows,a.signs)⟩
 refine (h.eqv (a.rows,a.signs) (b.rows,b.signs)).trans ⟨λe=>?_,λe=>by rw[e]⟩
 obtain⟨i,f⟩:=a
 obtain⟨g,c⟩:=b
 simp only[Prod.mk.injEq] at e
 rw[e.1,e.2]
theorem FV(rows:List (List Int))(row:List Int):(AV.own (rows.map oI++[oI row]))=oL (rows++[row]):=by rw[oL,map_append];rfl
theorem QA(row:List Int)(x:Int):AV.own ((row.map λk=>.d (.int k))++[.d (.int x)])=oI (row++[x]):=by rw[oI,map_append];rfl
variable{i:Nat}
theorem FW{x:List Int}{y:Int}{v:Int}(h:y∈x.set i v):y∈x\/y=v:=List.mem_or_eq_of_mem_set h
variable{k:Int}
theorem X6{ns:List Int}(a:0<=k)(h:k<ns.length):atI (ns.map PyData.int) k=some (.int (ns.getD k.toNat 0)):=by
 have e:k.toNat<ns.length:=by omega
 exact U3 a (by rw[getElem?_map,getElem?_eq_getElem e,getD_eq_getElem?_getD,getElem?_eq_getElem e];rfl)
theorem VT{rows:List (List Int)}(a:0<=k)(h:k<rows.length):atI (rows.map tI) k=some (tI (rows.getD k.toNat [])):=by
 have e:k.toNat<rows.length:=by omega
 exact U3 a (by rw[getElem?_map,getElem?_eq_getElem e,getD_eq_getElem?_getD,getElem?_eq_getElem e];rfl)
def Mach.lt(M:Mach):Nat:=(M.rows.getD 0 []).length
structure Mok(M:Mach):Prop where
 n:0<M.rows.length
 n1:M.rows.length<=1000
 row:∀ x∈M.rows,x.length=M.lt/\∀ y∈x,0<=y/\y<M.rows.length
 s:M.signs.length=M.rows.length
 l1:M.lt<=1000
 l0:0<M.lt
theorem VU{ns:List Int}(a:0<=k)(h:k<ns.length):atI (ns.map PyData.int) k=some (.int (ns.getD k.toNat 0)):=by
 have e:k.toNat<ns.length:=by omega
 exact U3 a (by rw[getElem?_map,getElem?_eq_getElem e,getD_eq_getElem?_getD,getElem?_eq_getElem e];rfl)
variable{α:Type}{xs:List α}
theorem YD{d:α}(h:i<xs.length):xs.getD i d∈xs:=by
 rw[getD_eq_getElem?_getD,getElem?_eq_getElem h];exact getElem_mem h
structure Parts(a b:Int)(M:Mach):Prop where
 n0:0<M.rows.length
 n1:M.rows.length<=100
 s:M.signs.length=M.rows.length
 row:∀ x∈M.rows,x.length=(M.rows.getD 0 []).length/\∀ y∈x,0<=y/\y<M.rows.length
 l0:a<=((M.rows.getD 0 []).length:Int)
 l1:((M.rows.getD 0 []).length:Int)<=b
 sg:∀ x∈M.signs,0<=x/\x<=9
def stp(rows:List (List Int))(r l:Int):Int:=(rows.getD r.toNat []).getD l.toNat 0
variable{b:Int}{M:Mach}
theorem Parts.stp{a:Int}(h:Parts a b M){r l:Int}(f:0<=r)(h1:r<M.rows.length)(l0:0<=l)(l1:l<(M.rows.getD 0 []).length):0<=stp M.rows r l/\stp M.rows r l<M.rows.length:=by
 have e:r.toNat<M.rows.length:=by omega
 have c:=h.row _ (YD (d:=[]) e)
 exact c.2 _ (YD (by rw[c.1];omega))
variable{n:Nat}{met F:List α}{g:α->Nat->α}
section
variable [DecidableEq α]
def ZQ(met:List α)(x:α):List α:=if x∈met then met else met++[x]
def ZJ(g:α->Nat->α)(a:α)(met:List α)(n:Nat):List α:=(List.range n).foldl (λm l=>ZQ m (g a l)) met
theorem Xt(g:α->Nat->α)(a:α)(met:List α)(n:Nat):ZJ g a met (n+1)=ZQ (ZJ g a met n) (g a n):=by
 unfold ZJ;rw[range_succ,foldl_append];rfl
inductive Bfs(g:α->Nat->α)(n:Nat):List α->Nat->List α->Prop
 | done {met:List α} {i:Nat}:met.length<=i->Bfs g n met i met
 | step {met F:List α} {i:Nat} (h:i<met.length):Bfs g n (ZJ g met[i] met n) (i+1) F->Bfs g n met i F
theorem Bfs.det{F':List α}(h:Bfs g n met i F):Bfs g n met i F'->F=F':=by
 induction h with
 | done h=>intro h';cases h' with
  | done _=>rfl
  | step a _=>omega
 | step h _ b=>intro h';cases h' with
  | done a=>omega
  | step _ a=>exact b a
theorem TK(met:List α)(x:α):∃ r,ZQ met x=met++r:=by
 unfold ZQ;split
 ·exact⟨[],by simp⟩
 ·exact⟨[x],rfl⟩
theorem QB(met:List α)(x:α):x∈ZQ met x:=by
 unfold ZQ;split
 ·assumption
 ·simp
theorem FX{x:α}(h:met.Nodup):(ZQ met x).Nodup:=by
 unfold ZQ;split
 ·exact h
 ·rename_i hx
  rw[List.nodup_append]
  exact⟨h,by simp,λa e b c=>by rw[mem_singleton.mp c];exact λz=>hx (z▸e)⟩
theorem Nz{U:List α}{x:α}(h:∀ y∈met,y∈U)(b:x∈U):∀ y∈ZQ met x,y∈U:=by
 unfold ZQ;split
 ·exact h
 ·intro y a
  rcases mem_append.mp a with a|a
  ·exact h y a
  ·rw[mem_singleton.mp a];exact b
theorem VV(g:α->Nat->α)(a:α)(met:List α):∀ n,∃ r,ZJ g a met n=met++r
 | 0=>⟨[],by simp[ZJ]⟩
 | n+1=>by
  obtain⟨r,e⟩:=VV g a met n
  obtain⟨b,c⟩:=TK (ZJ g a met n) (g a n)
  rw[Xt,c,e]
  exact⟨r++b,by simp⟩
theorem Bfs.pre(h:Bfs g n met i F):∃ r,F=met++r:=by
 induction h with
 | done _=>exact⟨[],by simp⟩
 | @step met F i h _ b =>
  obtain⟨r,e⟩:=b
  obtain⟨a,c⟩:=VV g met[i] met n
  exact⟨a++r,by rw[e,c,List.append_assoc]⟩
theorem NA{r:List α}{x:α}(h:x∈met):(met++r).idxOf x=met.idxOf x:=by
 rw[idxOf_append,if_pos h]
theorem XE{U:List α}(nd:met.Nodup)(h:∀ x∈met,x∈U):met.length<=U.length:=by
 induction met generalizing U with
 | nil=>simp
 | cons a met c =>
  rw[nodup_cons] at nd
  have g:=c (U:=U.erase a) nd.2 λx b=>(List.mem_erase_of_ne (λ(z:x=a)=>nd.1 (z▸b))).mpr (h x (.tail _ b))
  have f:=List.length_erase_of_mem (h a (.head _))
  have e:0<U.length:=List.length_pos_of_mem (h a (.head _))
  simp only[length_cons]
  omega
def Zy(g:α->Nat->α)(F:List α)(a:α)(n:Nat):List Int:=(List.range n).map λl=>(F.idxOf (g a l):Int)
theorem FY(g:α->Nat->α)(F:List α)(a:α)(n:Nat):Zy g F a (n+1)=Zy g F a n++[(F.idxOf (g a n):Int)]:=by
 unfold Zy;rw[range_succ,map_append];rfl
theorem NB{r:List α}{a:α}(h:∀ l,l<n->g a l∈met):Zy g (met++r) a n=Zy g met a n:=by
 unfold Zy
 refine map_congr_left λl b=>?_
 rw[NA (h l (mem_range.mp b))]
def Xf(met:List α):List (α×PyData):=met.zipIdx.map λp=>(p.1,PyData.int (p.2:Int))
theorem FZ(met:List α)(x:α):Xf (met++[x])=Xf met++[(x,.int (met.length:Int))]:=by
 unfold Xf;rw[List.zipIdx_append,map_append];simp
theorem NC(x:α):∀ (met:List α) (k:Nat),ZG ((met.zipIdx k).map λp=>(p.1,PyData.int (p.2:Int))) x=if x∈met then some (.int ((k+met.idxOf x:Nat):Int)) else none
 | [],_=>rfl
 | y::met,k=>by
  rw[List.zipIdx_cons,map_cons]
  have b:=NC x met (k+1)
  unfold ZG at b ⊢
  rw[find?_cons]
  by_cases h:y=x
  ·subst h
   simp[idxOf_cons]
  ·have e:decide (y=x)=false:=decide_eq_false h
   simp only[e]
   rw[b]
   have c:(y == x)=false:=beq_false_of_ne h
   by_cases a:x∈met
   ·rw[if_pos a,if_pos (.tail _ a),idxOf_cons,c]
    simp only[cond_false]
    congr 3
    omega
   ·rw[if_neg a,if_neg (by simp[a,Ne.symm h])]
theorem QC(met:List α)(x:α):ZG (Xf met) x=if x∈met then some (.int (met.idxOf x:Int)) else none:=by
 have:=NC x met 0
 rw[Nat.zero_add] at this
 exact this
theorem F0{x:α}(h:x∉met):YF (Xf met) x (.int (met.length:Int))=Xf (met++[x]):=by
 unfold YF;rw[QC,if_neg h,FZ];rfl
end
structure Th(α:Type) where
 start:α
 n:Nat
 m:Int
 g:α->Nat->α
 U:List α
structure Th.Ok{α:Type}(θ:Th α):Prop where
 mem:θ.start∈θ.U
 cl:∀ x∈θ.U,∀ l,l<θ.n->θ.g x l∈θ.U
 um:(θ.U.length:Int)<=θ.m
 n1:θ.n<=1000
 u1:θ.U.length<=1000
def YG(e:α->PyData)(θ:Th α)(cs:List AV):Prop:=∃ (x:α) (l:Nat),cs=[.d (e x),.d (.int l)]/\x∈θ.U/\l<θ.n
def YH(e:α->PyData)(θ:Th α)(cs:List AV)(c:AV):Prop:=∃ (x:α) (l:Nat),cs=[.d (e x),.d (.int l)]/\c=.d (e (θ.g x l))
def F1(P:Program)(w:World)(K:W.Frag)(mg:Str->Option Value)(base:Heap)(e:α->PyData)(θ:Th α)(cs:List AV):Prop :=
 θ.Ok/\cs=[.d (e θ.start),.d (.int θ.n),.obj (CloOk P w K mg base CX0 3 (spR K (YG e θ) (YH e θ) NP)),.d (.int θ.m)]
def QD[DecidableEq α](e:α->PyData)(θ:Th α)(F:List α):PyData:=.tuple [.list (F.map e),.tuple ((F.map λa=>Zy θ.g F a θ.n).map tI)]
def F2[DecidableEq α](e:α->PyData)(θ:Th α)(_:List AV)(c:AV):Prop:=∃ F,Bfs θ.g θ.n [θ.start] 0 F/\F.Nodup/\(∀ x∈F,x∈θ.U)/\c=.d (QD e θ F)
abbrev oE(e:α->PyData)(xs:List α):AV:=.own (xs.map λx=>.d (e x))
theorem UD(e:α->PyData)(xs:List α):(oE e xs).data=.list (xs.map e):=by rw[AV.data,Yq]
variable{e:α->PyData}
theorem F3(h:i<xs.length):atI (xs.map e) (i:Int)=some (e xs[i]) :=
 U3 (by omega) (by rw[Int.toNat_natCast,getElem?_map,getElem?_eq_getElem h];rfl)
structure MetI{α:Type}[DecidableEq α](θ:Th α)(met:List α)(i:Nat):Prop where
 nd:met.Nodup
 u:∀ x∈met,x∈θ.U
 all:∀ j (h:j<met.length),j<i->∀ l,l<θ.n->θ.g met[j] l∈met
 bf:∀ F,Bfs θ.g θ.n met i F->Bfs θ.g θ.n [θ.start] 0 F
 le:i<=met.length
theorem F4(T:Txt K mg)[DecidableEq α](F:KEnc e)(p:∀ a b,e a=e b->a=b)(hf:∀ x,ZE (e x)=true) :
  Cal P w K mg base CX0 4 "met_from" ["start", "letters", "lead", "most"] [] (spF K (F1 P w K mg base e) (F2 e)):=by
 refine Ws T.x_met_from Vd (λg cs ⟨_,e⟩=>by rw[e];rfl) (λg f cdv A outer s H E N=>?_) [] (by simp)
 refine⟨_,(Ze (Zp (i:=4) Vd.nd rfl (Or.inl rfl) (ZZ (Za (pv 0) Zb)))
   (Ze (HV (i:=5) Vd.nd rfl (Or.inl rfl) (HU N.units (pv 0) Zc))
   (Ze (Zp (i:=6) Vd.nd rfl (Or.inl rfl) (ZZ Zb))
   (Ze (SB PassesOwn.never (Zw Vt (ZA (ZS (K:=K) rfl) rfl T.n_len PySem.boot_len (Za (pv 6) Zb)) (ZA (ZS (K:=K) rfl) rfl T.n_len PySem.boot_len (Za (pv 4) Zb)) (nomark _))
    (Ze (Zp (i:=7) Vd.nd rfl (Or.inl rfl) (ZZ Zb))
    (Ze (YY PassesOwn.never rfl (XM rfl T.n_range (Za (pv 1) Zb)) (ZI (i:=8) Vd.nd rfl (Or.inl rfl))
     (Ze (Zp (i:=9) Vd.nd rfl (Or.inl rfl) (RK (CX:=CX0) (P:=P) (w:=w) (K:=K) (mg:=mg) (base:=base) (i:=2) (k:=3) rfl rfl rfl rfl rfl (N.mono (by decide)) pass0 (Za (Zj (Zk (K:=K) rfl N.units) (pv 4) (ZA (ZS (K:=K) rfl) rfl T.n_len PySem.boot_len (Za (pv 6) Zb)) (λ_ _=>rfl)) (Za (pv 8) Zb))))
     (Ze (W4 (Zw (Tb (K:=K) rfl N.units) (pv 9) (pv 5) (by with_unfolding_all rfl))
      (Ze (Ub (ZA (ZS (K:=K) rfl) rfl T.n_len PySem.boot_len (Za (pv 4) Zb)) (UN (pv 5) (pv 9) (U9 N.units)))
      (Zh (Yh (Y4 (K:=K) rfl PySem.F.plainAttrs_list PySem.F.slot_list_append PySem.F.type_list_append Xl (pv 4) (Za (pv 9) Zb)))))
      ZO)
     (Zh (Yh (Y4 (K:=K) rfl PySem.F.plainAttrs_list PySem.F.slot_list_append PySem.F.type_list_append Xl (pv 7) (Za (Zj (Zk (K:=K) rfl N.units) (pv 5) (pv 9) (λ_ _=>rfl)) Zb)))))))
    (Ze (Yh (Y4 (K:=K) rfl PySem.F.plainAttrs_list PySem.F.slot_list_append PySem.F.type_list_append Xl (pv 6) (Za (Yk (Y3 (K:=K) rfl) rfl T.n_tuple PyProof.Rows.boot_tuple (Za (pv 7) Zb)) Zb)))
    (Zh (Z3 (Zw XN (ZA (ZS (K:=K) rfl) rfl T.n_len PySem.boot_len (Za (pv 4) Zb)) (pv 3) (nomark _))
     (Zh Vp)
     ZO))))))
   (Zh (Zq (Yd (Za (pv 4) (Za (Yk (Y3 (K:=K) rfl) rfl T.n_tuple PyProof.Rows.boot_tuple (Za (pv 6) Zb)) Zb))))))))),?_⟩
 rintro cs ⟨ok,rfl⟩
 show Sv K _ _ _ [some (.d (e g.start)),some (.d (.int g.n)),some (.obj (CloOk P w K mg base CX0 3 (spR K (YG e g) (YH e g) NP))),some (.d (.int g.m)),none,none,none,none,none,none] _
 k_head
 refine Yj ?_
 k_head
 refine⟨[.d (e g.start)],.cons rfl .nil,by show 1<=1000;decide,?_⟩
 k_head
 refine HW F ?hn ?_
 case hn=>show 5<10;decide
 k_head
 refine⟨g.start,rfl,NR.av,?_⟩
 k_head
 refine⟨.int 0,rfl,?_⟩
 show Sv K _ _ _ [some (.d (e g.start)),some (.d (.int g.n)),some (.obj (CloOk P w K mg base CX0 3 (spR K (YG e g) (YH e g) NP))),some (.d (.int g.m)),some (.own [.d (e g.start)]),some (.dic (Zz e [(g.start,.int 0)])),none,none,none,none] _
 k_head
 refine Re (λm v=>∃ (met:List α) (rows:List (List Int)) (o1 B y:Option AV),v=[some (.d (e g.start)),some (.d (.int g.n)),some (.obj (CloOk P w K mg base CX0 3 (spR K (YG e g) (YH e g) NP))),some (.d (.int g.m)),some (oE e met),some (.dic (Zz e (Xf met))),some (.own (rows.map λx=>.d (tI x))),o1,B,y] /\
  MetI g met rows.length/\(∀ j (h:j<met.length),j<rows.length->rows[j]?=some (Zy g.g met met[j] g.n))/\m=g.U.length-rows.length) g.U.length ⟨[g.start],[],none,none,none,rfl,⟨by simp,by simpa using ok.mem,λj _ p=>by simp at p,λF h=>h,by simp⟩,λj _ p=>by simp at p,by simp⟩ ?_
 rintro m v ⟨met,rows,o1,B,y,rfl,I,hrows,rfl⟩
 have hml:=XE I.nd I.u
 have hu1:=ok.u1
 have hle:=I.le
 k_head
 refine Z9 (ds:=rows.map tI) (by exact (Wj rows λx=>.d (tI x))) ?_
 rw[length_map]
 k_head
 refine Z9 (ds:=met.map e) (by exact UD e met) ?_
 rw[length_map]
 k_head
 refine ite2 (λh=>?_) λh=>?_
 ·have q:rows.length<met.length:=by have:=of_decide_eq_true h;omega
  k_head
  refine Wh ?_
  k_head
  have hn1:=ok.n1
  have ha:=I.u _ (getElem_mem q)
  refine⟨(g.n:Int),rfl,⟨by omega,by omega⟩,λl v=>∃ (B y:Option AV),v=[some (.d (e g.start)),some (.d (.int g.n)),some (.obj (CloOk P w K mg base CX0 3 (spR K (YG e g) (YH e g) NP))),some (.d (.int g.m)),some (oE e (ZJ g.g met[rows.length] met l)),some (.dic (Zz e (Xf (ZJ g.g met[rows.length] met l)))),some (.own (rows.map λx=>.d (tI x))),some (oI (Zy g.g (ZJ g.g met[rows.length] met l) met[rows.length] l)),B,y] /\
   (ZJ g.g met[rows.length] met l).Nodup/\(∀ x∈ZJ g.g met[rows.length] met l,x∈g.U)/\∀ J,J < l->g.g met[rows.length] J∈ZJ g.g met[rows.length] met l,⟨B,y,rfl,I.nd,I.u,λJ h=>by omega⟩,?_,?_⟩
  ·rintro l v S ⟨B,y,rfl,k1,k2,k3⟩
   have R:l<g.n:=by omega
   obtain⟨r,u⟩:=VV g.g met[rows.length] met l
   have L:=XE k1 k2
   have O:=ok.cl _ ha l R
   k_head
   refine RH (i:=2) rfl ?_
   k_head
   refine Z9 (ds:=rows.map tI) (by exact (Wj rows λx=>.d (tI x))) ?_
   rw[length_map]
   have hG:rows.length<(ZJ g.g met[rows.length] met l).length:=by rw[u,List.length_append];omega
   have eG:(ZJ g.g met[rows.length] met l)[rows.length]=met[rows.length]:=by
    simp only[u]
    exact getElem_append_left q
   refine ZL (UD e _) (F3 hG) (Zs.flat (hf _)) ?_
   rw[eG]
   generalize W:ZJ g.g met[rows.length] met l=G at k1 k2 k3 u L hG eG ⊢
   generalize n:g.g met[rows.length] l=t at O
   k_head
   refine⟨[.d (e met[rows.length]),.d (.int l)],.cons (.d NR.av rfl) (.cons (.d NR.av rfl) .nil),⟨met[rows.length],l,rfl,ha,R⟩,λc ⟨x,l2,ee,ec⟩=>?_,λ_ z=>z.elim⟩
   simp only[append_nil,List.cons.injEq,AV.d.injEq,PyData.int.injEq,and_true] at ee
   have ex:=p _ _ ee.1
   have el:l=l2:=by omega
   subst ex el
   rw[n] at ec
   subst ec
   refine⟨_,Got.own (hf _),?_⟩
   k_head
   refine W5 (λv=>v=[some (.d (e g.start)),some (.d (.int g.n)),some (.obj (CloOk P w K mg base CX0 3 (spR K (YG e g) (YH e g) NP))),some (.d (.int g.m)),some (oE e (ZQ G t)),some (.dic (Zz e (Xf (ZQ G t)))),some (.own (rows.map λx=>.d (tI x))),some (oI (Zy g.g G met[rows.length] l)),some (.d (.int l)),some (.d (e t))]) ?_ ?_
   case refine_2 =>
    k_head
    refine Ru F (c:=t) (kvs:=Xf G) rfl rfl ?_
    rw[QC]
    by_cases Q:t∈G
    ·rw[if_pos Q]
     k_head
     show (if (!true)=true then _ else _)
     refine Tg ?_
     k_head
     have ea:ZQ G t=G:=if_pos Q
     rw[ea]
    ·rw[if_neg Q]
     k_head
     show (if (!false)=true then _ else _)
     refine Ti ?_
     k_head
     refine He F ?hz ?_
     case hz=>unfold Xf;rw[length_map,List.length_zipIdx];omega
     k_head
     refine Z9 (ds:=G.map e) (by exact UD e G) ?_
     rw[length_map]
     k_head
     refine⟨_,t,rfl,rfl,NR.av,?_⟩
     rw[F0 Q]
     k_head
     refine XV ?hz ?_
     case hz=>rw[length_map];omega
     have ea:ZQ G t=G++[t]:=if_neg Q
     rw[ea]
     show [_,_,_,_,some (AV.own ((G.map λx=>.d (e x))++[.d (e t)])),_,_,_,_,_]=_
     rw[oE,map_append]
     rfl
   rintro v rfl
   k_head
   refine Rv F (c:=t) (kvs:=Xf (ZQ G t)) (z:=.int ((ZQ G t).idxOf t:Int)) rfl rfl (by rw[QC,if_pos (QB G t)]) (Zs.flat rfl) ?_
   k_head
   refine XV ?hz ?_
   case hz=>rw[length_map];unfold Zy;rw[length_map,length_range];omega
   obtain⟨r2,Y⟩:=TK G t
   have eg:ZJ g.g met[rows.length] met (l+1)=ZQ G t:=by rw[Xt,W,n]
   have X:Zy g.g (ZQ G t) met[rows.length] (l+1)=Zy g.g G met[rows.length] l++[((ZQ G t).idxOf t:Int)]:=by
    rw[FY,n,Y,NB k3]
   rw[QA]
   show ∃ B y,_
   rw[eg,X]
   refine⟨_,_,rfl,FX k1,Nz k2 O,λJ h'=>?_⟩
   by_cases M:J < l
   ·rw[Y];exact mem_append_left _ (k3 J M)
   ·have:J=l:=by omega
    subst this
    rw[n];exact QB G t
  ·rintro v ⟨B,y,rfl,k1,k2,k3⟩
   rw[Int.toNat_natCast] at k1 k2 k3 ⊢
   obtain⟨r,u⟩:=VV g.g met[rows.length] met g.n
   have L:=XE k1 k2
   have U:∀ F,Bfs g.g g.n (ZJ g.g met[rows.length] met g.n) (rows.length+1) F->Bfs g.g g.n [g.start] 0 F:=λF h=>I.bf F (.step q h)
   generalize W:ZJ g.g met[rows.length] met g.n=G at k1 k2 k3 u L U ⊢
   k_head
   refine Y6 (ds:=(Zy g.g G met[rows.length] g.n).map .int) (by exact Xe _) (Kp.flat (Xn _)) ?_
   refine XV ?hz ?_
   case hz=>rw[length_map];omega
   w_on
   refine Z9 (ds:=G.map e) (by exact UD e G) ?_
   rw[length_map]
   w_on
   have hum:=ok.um
   refine Y2 (by omega) ?_
   k_head
   have hmG:met.length<=G.length:=by rw[u,List.length_append];omega
   have Z:∀ x∈met,x∈G:=λx hx=>by rw[u];exact mem_append_left _ hx
   have C:∀ j (h:j<G.length) (h':j<met.length),G[j]=met[j]:=λj h h'=>by
    simp only[u]
    exact getElem_append_left h'
   refine⟨g.U.length-(rows.length+1),by omega,G,rows++[Zy g.g G met[rows.length] g.n],some (oI (Zy g.g G met[rows.length] g.n)),B,y,?_,⟨k1,k2,λj h p l S=>?_,λF h=>?_,?_⟩,λj h p=>?_,by simp⟩
   ·show [_,_,_,_,_,_,some (AV.own ((rows.map λx=>.d (tI x))++[.d (tI (Zy g.g G met[rows.length] g.n))])),_,_,_]=_
    rw[map_append]
    rfl
   ·rw[List.length_append] at p
    by_cases M:j<rows.length
    ·rw[C j h (by omega)]
     exact Z _ (I.all j (by omega) M l S)
    ·have:j=rows.length:=by simp at p;omega
     subst this
     rw[C rows.length h q]
     exact k3 l S
   ·rw[List.length_append] at h
    exact U F h
   ·rw[List.length_append];simp;omega
   ·rw[List.length_append] at p
    by_cases M:j<rows.length
    ·rw[List.getElem?_append_left M,C j h (by omega),hrows j (by omega) M]
     congr 1
     rw[u,NB λl S=>I.all j (by omega) M l S]
    ·have:j=rows.length:=by simp at p;omega
     subst this
     rw[List.getElem?_append_right (Nat.le_refl _),C rows.length h q]
     simp
 ·have hge:met.length<=rows.length:=by
   have:¬ ((rows.length:Int)<met.length):=λz=>h (decide_eq_true z)
   omega
  k_head
  refine HX ?_
  k_head
  refine Y6 (ds:=rows.map tI) (by exact (Wj rows λx=>.d (tI x))) (Kp.flat (XR (λx=>UC x) rows)) ?_
  k_head
  have hrl:rows.length=met.length:=by omega
  have u:rows=met.map λa=>Zy g.g met a g.n:=by
   refine List.ext_getElem? λj=>?_
   by_cases p:j<met.length
   ·rw[hrows j p (by omega),getElem?_map,getElem?_eq_getElem p];rfl
   ·rw[getElem?_eq_none (by omega),getElem?_eq_none (by rw[length_map];omega)]
  refine⟨by walk_at "nrs",by show 2<=1000;decide,_,.inr ⟨NR.bor,rfl⟩,met,I.bf met (.done hge),I.nd,I.u,?_⟩
  show AV.d (.tuple [(oE e met).data,.tuple (rows.map tI)])=_
  rw[UD]
  unfold QD
  rw[<- u]
def X7(e:α->PyData)(θ:Th α)(cs:List AV):Prop:=∃ x:α,cs=[.d (e x)]/\x∈θ.U
def X8(e:α->PyData)(sg:α->Int)(cs:List AV)(c:AV):Prop:=∃ x:α,cs=[.d (e x)]/\c=.d (.int (sg x))
def Yv[DecidableEq α](θ:Th α)(sg:α->Int)(F:List α):Mach:=⟨F.map λa=>Zy θ.g F a θ.n,F.map sg⟩
def ND(P:Program)(w:World)(K:W.Frag)(mg:Str->Option Value)(base:Heap)(e:α->PyData)(θ:Th α×(α->Int))(cs:List AV):Prop :=
 θ.1.Ok/\cs=[.d (e θ.1.start),.d (.int θ.1.n),.obj (CloOk P w K mg base CX0 3 (spR K (YG e θ.1) (YH e θ.1) NP)),.obj (CloOk P w K mg base CX0 3 (spR K (X7 e θ.1) (X8 e θ.2) NP)),.d (.int θ.1.m)]
def F5[DecidableEq α](θ:Th α×(α->Int))(_:List AV)(c:AV):Prop:=∃ F,Bfs θ.1.g θ.1.n [θ.1.start] 0 F/\F.Nodup/\(∀ x∈F,x∈θ.1.U)/\c=.d (dM (Yv θ.1 θ.2 F))
theorem NF(T:Txt K mg)[DecidableEq α](C:KEnc e)(p:∀ a b,e a=e b->a=b)(u:∀ x,ZE (e x)=true) :
  Cal P w K mg base CX0 5 "machine_met" ["start", "letters", "lead", "sign", "most"] [] (spF K (ND P w K mg base e) F5):=by
 have c_met_from:Cal P w K mg base _ _ _ _ _ _:=F4 T C p u
 refine Ws T.x_machine_met Nq (λg cs ⟨_,e⟩=>by rw[e];rfl) (λg f B A n s H E m=>?_) [] (by simp)
 refine⟨_,(Ze (Zp (i:=5) Nq.nd rfl (Or.inl rfl) (Zg (c_met_from.mono (by decide)) m rfl pass0 (Za (pv 0) (Za (pv 1) (Za (pv 2) (Za (pv 4) Zb))))))
   (Zh (Zq (Yd (Za (Zj (Zk (K:=K) rfl m.units) (pv 5) Zc (λ_ _=>rfl)) (Za (Yk (Y3 (K:=K) rfl) rfl T.n_tuple PyProof.Rows.boot_tuple (Za (Y1 (N:=["thing", "sign"]) (cap:=[none,some 3]) rfl rfl rfl (by kernel_rfl) (Xo (K:=K) rfl (Zj (Zk (K:=K) rfl m.units) (pv 5) Zc (λ_ _=>rfl))) (λ_ _ _ _=>(ZI (i:=0) (show (["thing", "sign"]:List Str).Nodup from by decide +kernel) rfl (Or.inl rfl))) (λ_ _ _ _=>YO) (λ_ _ _ _=>(RK (CX:=CX0) (P:=P) (w:=w) (K:=K) (mg:=mg) (base:=base) (i:=1) (k:=3) rfl rfl rfl rfl rfl (m.mono (by decide)) pass0 (Za (pv 0) Zb)))) Zb)) Zb)))))),?_⟩
 rintro cs ⟨ok,rfl⟩
 obtain⟨g,sg⟩:=g
 show Sv K _ _ _ [some (.d (e g.start)),some (.d (.int g.n)),some (.obj (CloOk P w K mg base CX0 3 (spR K (YG e g) (YH e g) NP))),some (.obj (CloOk P w K mg base CX0 3 (spR K (X7 e g) (X8 e sg) NP))),some (.d (.int g.m)),none] _
 k_head
 refine ZH ?_
 k_head
 refine⟨g,[.d (e g.start),.d (.int g.n),.obj _,.d (.int g.m)],.cons (.d NR.av rfl) (.cons (.d NR.av rfl) (.cons .o (.cons (.d NR.av rfl) .nil))),⟨ok,rfl⟩,λc ⟨F,h1,h2,h3,ec⟩=>?_,λ_ z=>z.elim⟩
 subst ec
 refine⟨_,Got.br,?_⟩
 have r:g.U.length<=1000:=ok.u1
 have v:=XE h2 h3
 refine v_sB (by repeat (first|exact Yn.nil|refine Yn.no ?_|refine Yn.d ?_|refine Yn.o ?_)) ?_
 show Sv K _ _ _ [some (.d (e g.start)),some (.d (.int g.n)),some (.obj (CloOk P w K mg base CX0 3 (spR K (YG e g) (YH e g) NP))),some (.obj (CloOk P w K mg base CX0 3 (spR K (X7 e g) (X8 e sg) NP))),some (.d (.int g.m)),some (.d (QD e g F))] _
 o_law
 refine Yg ?_
 o_law
 refine Hn (α:=α) ?_
 o_law
 refine⟨F,e,λi h=>h=(F.take i).map λx=>.d (.int (sg x)),.inl rfl,NR.av,by omega,rfl,λi h q j=>?_,λh j=>?_⟩
 ·show Gv K _ _ [none,some (.obj (CloOk P w K mg base CX0 3 (spR K (X7 e g) (X8 e sg) NP)))] _
  o_law
  refine⟨Y7,Oz ?_⟩
  refine RH (i:=1) rfl ?_
  o_law
  refine⟨[.d (e F[i])],.cons (.d NR.av rfl) .nil,⟨F[i],rfl,h3 _ (getElem_mem q)⟩,λc ⟨x,ee,ec⟩=>?_,λ_ z=>z.elim⟩
  simp only[append_nil,List.cons.injEq,AV.d.injEq,and_true] at ee
  have ex:=p _ _ ee
  subst ex ec
  refine⟨_,Got.own rfl,_,rfl,?_⟩
  show h++_=(F.take (i+1)).map _
  rw[show h=(F.take i).map _ from j,List.take_add_one,getElem?_eq_getElem q,map_append]
  rfl
 ·have j:h=(F.take F.length).map λx=>.d (.int (sg x)):=j
  rw[List.take_length] at j
  subst j
  have y:(AV.own (F.map λx=>.d (.int (sg x))))=oI (F.map sg):=by rw[oI,map_map];rfl
  rw[y]
  refine⟨_,Got.own (WK _),?_⟩
  o_law
  refine Y6 (ds:=(F.map sg).map .int) (by exact Xe _) (Kp.flat (Xn _)) ?_
  o_law
  refine⟨[.d (.tuple ((F.map λa=>Zy g.g F a g.n).map tI)),.d (tI (F.map sg))],.cons rfl (.cons rfl .nil),by show 2<=1000;decide,_,Zt rfl,F,h1,h2,h3,rfl⟩
def gR(M:Mach)(st:List Int)(r:Int)(l:Nat):Int:=st.getD (stp M.rows r l).toNat 0
def thR(M:Mach)(st:List Int):Th Int:=⟨0,(M.rows.getD 0 []).length,M.rows.length,gR M st,rgI M.rows.length⟩
def sgR(M:Mach)(r:Int):Int:=M.signs.getD r.toNat 0
structure StOk(M:Mach)(st:List Int):Prop where
 len:st.length=M.rows.length
 all:∀ y∈st,0<=y/\y<M.rows.length
variable{x:Int}
theorem ZD:x∈rgI n↔0<=x/\x<n:=by
 simp only[rgI,mem_map,mem_range]
 refine⟨λ⟨a,h,e⟩=>by omega,λh=>⟨x.toNat,by omega,by omega⟩⟩
variable{st:List Int}
theorem F6(b:Parts 1 64 M)(c:StOk M st):(thR M st).Ok:=by
 have i:=b.n0
 have h:=b.n1
 have f:=b.l1
 refine⟨ZD.mpr ⟨Int.le_refl _,by show (0:Int)<M.rows.length;omega⟩,λx a l e=>?_,?_,?_,?_⟩
 ·have a:=ZD.mp a
  have e:l<(M.rows.getD 0 []).length:=e
  have g:=b.stp a.1 a.2 (l:=l) (by omega) (by omega)
  exact ZD.mpr (c.all _ (YD (by rw[c.len];omega)))
 ·show ((rgI M.rows.length).length:Int)<=M.rows.length
  simp[rgI]
 ·show (M.rows.getD 0 []).length<=1000
  omega
 ·show (rgI M.rows.length).length<=1000
  simp[rgI];omega
def F7(cs:List AV):Prop:=∃ (M:Mach) (st:List Int),cs=[.d (dM M),.d (dI st)]/\Parts 1 64 M/\StOk M st
def F8(cs:List AV)(c:AV):Prop:=∃ (M:Mach) (st F:List Int),cs=[.d (dM M),.d (dI st)]/\Bfs (gR M st) (M.rows.getD 0 []).length [0] 0 F/\F.Nodup/\(∀ x∈F,x∈rgI M.rows.length)/\c=.d (dM (Yv (thR M st) (sgR M) F))
theorem F9(T:Txt K mg)(B:base.BuiltinsAt mg mainGlobals)(u:∀ p∈ts0,p∈Tabs.ts):Cal P w K mg base CX0 6 "reached_by" ["machine", "stands"] [] (spR K F7 F8 NP):=by
 obtain⟨U,G⟩:=T.x_reached_by
 have c_machine_met:Cal P w K mg base _ _ _ _ _ _:=NF T KEnc.int (λa b e=>PyData.int.inj e) λ_=>rfl
 refine Ty (k:=5) G Ve (λcs ⟨M,st,e,_⟩=>by rw[e];rfl) (λf A j s H E g=>?_)
 refine⟨_,(Ze (Zp (i:=2) Ve.nd rfl (Or.inr rfl) (Zj (Zk (K:=K) rfl g.units) (pv 0) Zc (λ_ _=>rfl)))
   (Ze (Zp (i:=3) Ve.nd rfl (Or.inr rfl) (Zj (Zk (K:=K) rfl g.units) (pv 0) Zc (λ_ _=>rfl)))
   (Ze (Xp (name := "lead") (qual := "reached_by.<locals>.lead") (params:=ZP Wt) (body:=Zv Wt) (scope:=Zd Wt) (P:=X2) (i:=4) Ve.nd rfl (Or.inl rfl) rfl rfl rfl rfl rfl G.tab G7 B)
   (Ze (Xp (name := "sign") (qual := "reached_by.<locals>.sign") (params:=ZP Wu) (body:=Zv Wu) (scope:=Zd Wu) (P:=X2) (i:=5) Ve.nd rfl (Or.inl rfl) rfl rfl rfl rfl rfl G.tab Fa B)
   (Zh (Zq (W9 (c_machine_met.mono (by decide)) g rfl (W8 (E:=E0)) (Za Zc (Za (ZA (ZS (K:=K) rfl) rfl T.n_len PySem.boot_len (Za (Zj (Zk (K:=K) rfl g.units) (pv 2) Zc (λ_ _=>rfl)) Zb)) (Za (pv 4) (Za (pv 5) (Za (ZA (ZS (K:=K) rfl) rfl T.n_len PySem.boot_len (Za (pv 2) Zb)) Zb)))))))))))),?_⟩
 rintro cs ⟨M,st,rfl,hP,hst⟩
 show Sv K _ _ _ [some (.d (dM M)),some (.d (dI st)),none,none,none,none] _
 have J:=hP.n0
 o_law
 refine Xq (u (X2,Qw) (by simp[ts0])) (by decide +kernel) (by show 4<6;decide) ?_
 show Sv K _ _ _ [some (.d (dM M)),some (.d (dI st)),some (.d (tR M.rows)),some (.d (tI M.signs)),some (.obj _),none] _
 o_law
 refine Xq (u (X2,Qw) (by simp[ts0])) (by decide +kernel) (by show 5<6;decide) ?_
 show Sv K _ _ _ [some (.d (dM M)),some (.d (dI st)),some (.d (tR M.rows)),some (.d (tI M.signs)),some (.obj _),some (.obj _)] _
 o_law
 refine Vc ?_
 o_law
 refine YA rfl (VT (by decide) (by omega)) Zs.d ?_
 o_law
 refine W3 rfl ?_
 rw[length_map]
 o_law
 refine W3 rfl ?_
 rw[length_map]
 o_law
 refine⟨(thR M st,sgR M),[.d (.int 0),.d (.int (M.rows.getD 0 []).length),.obj (CloOk P w K mg base CX0 3 (spR K (YG PyData.int (thR M st)) (YH PyData.int (thR M st)) NP)),.obj (CloOk P w K mg base CX0 3 (spR K (X7 PyData.int (thR M st)) (X8 PyData.int (sgR M)) NP)),.d (.int M.rows.length)],
  .cons (.d NR.av rfl) (.cons (.d NR.av rfl) (.cons (.o (λv S R m h=>h.same m) λQ I ts as O N v s L C=>?lead) (.cons (.o (λv S R m h=>h.same m) λQ I ts as O N v s L C=>?sign) (.cons (.d NR.av rfl) .nil)))),⟨F6 hP hst,rfl⟩,λc ⟨F,h1,y,h3,ec⟩=>?_⟩
 case lead =>
  refine Xr (k:=2) G5 G6 Ve.nofree (λ_=>rfl) (λ_ _ _ _ _ s us q=>by obtain⟨a,b,rfl⟩:=len2 q;exact .of_eq rfl) (λcs ⟨x,l,e,_⟩=>by rw[e];rfl) (λcs ⟨x,l,e,_⟩=>by rw[e];rfl) C L s λcl f c A j s H E g=>?_
  refine⟨_,(Zh (Zq (Zj (Zk (K:=K) rfl g.units) (pv 2) (Zj (Zk (K:=K) rfl g.units) (Zj (Zk (K:=K) rfl g.units) (pv 3) (pv 0) (λ_ _=>rfl)) (pv 1) (λ_ _=>rfl)) (λ_ _=>rfl)))),?_⟩
  rintro cs ⟨x,l,rfl,n,q⟩
  show Sv K _ _ _ [some (.d (.int x)),some (.d (.int l)),some (.d (dI st)),some (.d (tR M.rows))] _
  have n:=ZD.mp n
  have q:l<(M.rows.getD 0 []).length:=q
  have y:=hP.stp n.1 n.2 (l:=l) (by omega) (by omega)
  have g:x.toNat<M.rows.length:=by omega
  have r:=(hP.row _ (YD (d:=[]) g)).1
  w_on
  refine YA rfl (VT n.1 n.2) Zs.d ?_
  w_on
  refine YA rfl (X6 (by omega) (by rw[r];omega)) Zs.d ?_
  w_on
  refine ZL rfl (X6 y.1 (by rw[hst.len];exact y.2)) Zs.d ?_
  exact⟨_,Zt rfl,x,l,rfl,rfl⟩
 case sign =>
  refine Xr (k:=2) G8 G9 Ve.nofree (λ_=>rfl) (λ_ _ _ _ _ s us q=>by obtain⟨a,rfl⟩:=len1 q;exact .of_eq rfl) (λcs ⟨x,e,_⟩=>by rw[e];rfl) (λcs ⟨x,e,_⟩=>by rw[e];rfl) C L s λcl f c A j s H E g=>?_
  refine⟨_,(Zh (Zq (Zj (Zk (K:=K) rfl g.units) (pv 1) (pv 0) (λ_ _=>rfl)))),?_⟩
  rintro cs ⟨x,rfl,n⟩
  show Sv K _ _ _ [some (.d (.int x)),some (.d (tI M.signs))] _
  have n:=ZD.mp n
  w_on
  refine YA rfl (X6 n.1 (by rw[hP.s];exact n.2)) Zs.d ?_
  exact⟨_,Zt rfl,x,rfl,rfl⟩
 subst ec
 refine⟨rfl,_,Got.own (YC _),_,Zt rfl,M,st,F,rfl,h1,y,h3,rfl⟩
abbrev stA(M:Mach):List Int:=rgI M.rows.length
theorem Eb(M:Mach):StOk M (stA M):=⟨by simp[rgI],λy a=>ZD.mp a⟩
variable{N:Mach}
theorem VW(h:dM M=dM N):M=N:=by
 have:=(Mach.enc.eqv M N).mp (by rw[h];exact (Mach.enc.eqv N N).mpr rfl)
 exact this
theorem Ec{a b:List Int}(h:dI a=dI b):a=b:=by
 have h':a.map PyData.int=b.map PyData.int:=by injection h
 exact (List.map_inj_right λ_ _ e=>PyData.int.inj e).mp h'
theorem NG(n:Nat):rgI (n+1)=rgI n++[(n:Int)]:=by simp[rgI,range_succ]
theorem VX(n:Nat):(rgI n).length=n:=by simp[rgI]
theorem Ee{k:Nat}(h:k<n):(rgI n).getD k 0=(k:Int):=by
 rw[getD_eq_getElem?_getD]
 simp[rgI,h]
theorem Ef{k:Nat}(h:k<n):(rgI n).idxOf (k:Int)=k:=by
 induction n with
 | zero=>omega
 | succ n a =>
  rw[NG,idxOf_append]
  by_cases b:k<n
  ·rw[if_pos (ZD.mpr ⟨by omega,by omega⟩),a b]
  ·have:k=n:=by omega
   subst this
   rw[if_neg (λz=>by have:=ZD.mp z;omega),VX]
   simp
section
variable [DecidableEq α]
def gN(g:α->Nat->α)(F:List α)(i:Int)(l:Nat):Int:=match F[i.toNat]? with
 | some a=>(F.idxOf (g a l):Int)
 | none=>0
theorem Eg{m r:List α}{x:α}(nd:F.Nodup)(e:F=ZQ m x++r):ZQ (rgI m.length) (F.idxOf x:Int)=rgI (ZQ m x).length:=by
 by_cases h:x∈m
 ·have a:ZQ m x=m:=if_pos h
  rw[a] at e ⊢
  rw[e,NA h]
  exact if_pos (ZD.mpr ⟨by omega,by have:=idxOf_lt_length_of_mem h;omega⟩)
 ·have a:ZQ m x=m++[x]:=if_neg h
  rw[a] at e ⊢
  have b:F.idxOf x=m.length:=by
   rw[e,List.append_assoc,idxOf_append,if_neg h]
   simp
  rw[b]
  unfold ZQ
  rw[if_neg (λz=>by have:=ZD.mp z;omega),List.length_append]
  exact (NG m.length).symm
theorem NH{g:α->Nat->α}{F met:List α}{a:α}{i:Int}(nd:F.Nodup)(hi:F[i.toNat]?=some a):∀ (n:Nat) (r:List α),F=ZJ g a met n++r->ZJ (gN g F) i (rgI met.length) n=rgI (ZJ g a met n).length
 | 0,r,_=>rfl
 | n+1,r,e=>by
  rw[Xt] at e ⊢
  obtain⟨b,h⟩:=TK (ZJ g a met n) (g a n)
  have c:=NH (g:=g) (met:=met) nd hi n (b++r) (by rw[e,h,List.append_assoc])
  rw[Xt,c]
  have f:gN g F i n=(F.idxOf (g a n):Int):=by unfold gN;rw[hi]
  rw[f]
  exact Eg nd e
theorem NI(h:Bfs g n met i F)(nd:F.Nodup):Bfs (gN g F) n (rgI met.length) i (rgI F.length):=by
 induction h with
 | done h=>exact .done (by rw[VX];exact h)
 | @step met F i h j c =>
  have a:=c nd
  refine .step (by rw[VX];exact h) ?_
  obtain⟨r,e⟩:=j.pre
  obtain⟨p,m⟩:=VV g met[i] met n
  have b:F[((i:Nat):Int).toNat]?=some met[i]:=by
   rw[Int.toNat_natCast,e,m,List.append_assoc,List.getElem?_append_left h,getElem?_eq_getElem h]
  have f:(rgI met.length)[i]'(by rw[VX];exact h)=(i:Int):=by simp[rgI]
  rw[f,NH nd b n r e]
  exact a
end
section
variable [DecidableEq α]
theorem NJ(g:α->Nat->α)(a:α)(met:List α):∀ n l,l<n->g a l∈ZJ g a met n
 | 0,l,h=>by omega
 | n+1,l,h=>by
  rw[Xt]
  by_cases b:l<n
  ·obtain⟨r,e⟩:=TK (ZJ g a met n) (g a n)
   rw[e];exact mem_append_left _ (NJ g a met n l b)
  ·have:l=n:=by omega
   subst this
   exact QB _ _
theorem Bfs.all(h:Bfs g n met i F):(∀ j (c:j<met.length),j<i->∀ l,l<n->g met[j] l∈met)->∀ x∈F,∀ l,l<n->g x l∈F:=by
 induction h with
 | done h =>
  intro f x p l b
  obtain⟨j,c,rfl⟩:=List.mem_iff_getElem.mp p
  exact f j c (by omega) l b
 | @step met F i h u m =>
  intro f
  refine m λj c q l b=>?_
  obtain⟨r,e⟩:=VV g met[i] met n
  have a:∀ j (h':j<met.length),(ZJ g met[i] met n)[j]'(by rw[e,List.length_append];omega)=met[j]:=λj h'=>by
   simp only[e];exact getElem_append_left h'
  by_cases s:j<i
  ·rw[a j (by omega),e]
   exact mem_append_left _ (f j (by omega) s l b)
  ·have:j=i:=by omega
   subst this
   rw[a j h]
   exact NJ g met[j] met n l b
theorem NK{g g':α->Nat->α}{a:α}{met:List α}:∀ n,(∀ l,l<n->g a l=g' a l)->ZJ g a met n=ZJ g' a met n
 | 0,_=>rfl
 | n+1,h=>by rw[Xt,Xt,NK n λl b=>h l (by omega),h n (by omega)]
theorem NL{g:α->Nat->α}{a:α}{met U:List α}(b:∀ x∈met,x∈U):∀ n,(∀ l,l<n->g a l∈U)->∀ x∈ZJ g a met n,x∈U
 | 0,_=>b
 | n+1,h=>by
  rw[Xt]
  exact Nz (NL b n λl c=>h l (by omega)) (h n (by omega))
theorem Bfs.congr{g':α->Nat->α}{U:List α}(j:∀ x∈U,∀ l,l<n->g x l∈U)(f:∀ x∈U,∀ l,l<n->g x l=g' x l)(h:Bfs g n met i F):(∀ x∈met,x∈U)->Bfs g' n met i F:=by
 induction h with
 | done h=>exact λ_=>.done h
 | @step met F i h m e =>
  intro b
  have c:=b _ (getElem_mem h)
  refine .step h ?_
  rw[<- NK n λl a=>f _ c l a]
  exact e (NL b n λl a=>j _ c l a)
end
theorem TL{a:Int}(c:Parts a b M){r:Int}{l:Nat}(e:0<=r)(h1:r<M.rows.length)(hl:l<(M.rows.getD 0 []).length):gR M (stA M) r l=stp M.rows r l:=by
 have f:=c.stp e h1 (l:=l) (by omega) (by omega)
 unfold gR stA
 rw[Ee (by omega)]
 omega
variable{β:Type}{j:Nat}{f:Nat->α}
section
variable [DecidableEq α][DecidableEq β]
def Yr(f:Nat->α)(i:Nat):Bool:=decide (∀ j,j<i->f j≠f i)
def cnt(n:Nat)(f:Nat->α):Nat:=((List.range n).filter (Yr f)).length
theorem QE(n:Nat)(f:Nat->α):cnt n f<=n:=by
 have:=List.length_filter_le (Yr f) (List.range n)
 rw[length_range] at this
 exact this
def TM(n:Nat)(g:Nat->β)(f:Nat->α):Prop:=∀ i j,i<n->j<n->g i=g j->f i=f j
theorem Eh{g:Nat->β}(h:TM n g f)(hi:i<n)(hf:Yr f i=true):Yr g i=true:=by
 unfold Yr at hf ⊢
 have hf:=of_decide_eq_true hf
 exact decide_eq_true λj a e=>hf j a (h j i (by omega) hi e)
theorem Ej{l:List Nat}{p q:Nat->Bool}(h:∀ x∈l,p x=true->q x=true):(l.filter p).length<=(l.filter q).length:=by
 induction l with
 | nil=>simp
 | cons a l b =>
  have b:=b λx c=>h x (.tail _ c)
  have e:=h a (.head _)
  rw[filter_cons,filter_cons]
  cases hp:p a with
  | true=>rw[e hp];simp;exact b
  | false =>
   cases hq:q a with
   | true=>simp;omega
   | false=>simpa using b
theorem Ek{l:List Nat}{p q:Nat->Bool}(h:∀ x∈l,p x=true->q x=true)(hl:(l.filter q).length<=(l.filter p).length):∀ x∈l,q x=true->p x=true:=by
 induction l with
 | nil=>exact λx b=>nomatch b
 | cons a l f =>
  have h':∀ x∈l,p x=true->q x=true:=λx b=>h x (.tail _ b)
  have g:=Ej h'
  have i:=h a (.head _)
  rw[filter_cons,filter_cons] at hl
  intro x b c
  cases hp:p a with
  | true =>
   rw[hp,i hp] at hl
   simp at hl
   rcases mem_cons.mp b with e|b
   ·rw[e];exact hp
   ·exact f h' hl x b c
  | false =>
   cases hq:q a with
   | true=>rw[hp,hq] at hl;simp at hl;omega
   | false =>
    rw[hp,hq] at hl
    simp at hl
    rcases mem_cons.mp b with e|b
    ·rw[e,hq] at c;cases c
    ·exact f h' hl x b c
def Yw(n:Nat)(f:Nat->α)(i:Nat):Nat:=((List.range n).map f).idxOf (f i)
theorem WL(hi:i<n):Yw n f i<n:=by
 have:=idxOf_lt_length_of_mem (mem_map.mpr ⟨i,mem_range.mpr hi,rfl⟩:f i∈(List.range n).map f)
 rw[length_map,length_range] at this
 exact this
theorem WM(hi:i<n):f (Yw n f i)=f i:=by
 have a:f i∈(List.range n).map f:=mem_map.mpr ⟨i,mem_range.mpr hi,rfl⟩
 have h:=idxOf_lt_length_of_mem a
 have e:=getElem_idxOf h
 rw[getElem_map,getElem_range] at e
 exact e
theorem El{x:α}:∀ {j:Nat} (h:j<xs.length),j<xs.idxOf x->xs[j]≠x:=by
 induction xs with
 | nil=>intro j h;simp at h
 | cons a xs c =>
  intro j h b
  rw[idxOf_cons] at b
  by_cases e:a=x
  ·rw[show (a == x)=true from beq_iff_eq.mpr e] at b;simp at b
  ·rw[show (a == x)=false from beq_false_of_ne e] at b
   cases j with
   | zero=>exact e
   | succ j=>exact c (by simpa using h) (by simpa using b)
theorem NM(hi:i<n)(a:j<Yw n f i):f j≠f i:=by
 have b:=WL (f:=f) hi
 have:=El (xs:=(List.range n).map f) (x:=f i) (j:=j) (by rw[length_map,length_range];omega) a
 rw[getElem_map,getElem_range] at this
 exact this
theorem NN(hi:i<n):Yr f (Yw n f i)=true:=by
 unfold Yr
 refine decide_eq_true λj a=>?_
 rw[WM (f:=f) hi]
 exact NM hi a
theorem Em(hi:Yr f i=true)(hj:Yr f j=true)(e:f i=f j):i=j:=by
 unfold Yr at hi hj
 have hi:=of_decide_eq_true hi
 have hj:=of_decide_eq_true hj
 rcases Nat.lt_trichotomy i j with h|h|h
 ·exact absurd e (hj i h)
 ·exact h
 ·exact absurd e.symm (hi j h)
theorem NO(hi:i<n)(a:j<n):Yw n f i=Yw n f j↔f i=f j:=by
 refine⟨λe=>?_,λe=>?_⟩
 ·rw[<- WM (f:=f) hi,<- WM (f:=f) a,e]
 ·unfold Yw;rw[e]
theorem Eo(hi:i<n):Yw n f (Yw n f i)=Yw n f i:=(NO (WL hi) hi).mpr (WM hi)
theorem Ep{g:Nat->β}(h:TM n g f)(s:cnt n g<=cnt n f):TM n f g:=by
 have c:=Ek (l:=List.range n) (p:=Yr f) (q:=Yr g) (λx m r=>Eh h (mem_range.mp m) r) s
 intro i j b a e
 have v:=c _ (mem_range.mpr (WL b)) (NN (f:=g) b)
 have u:=c _ (mem_range.mpr (WL a)) (NN (f:=g) a)
 have A:=h _ _ (WL b) b (WM b)
 have y:=h _ _ (WL a) a (WM a)
 have w:Yw n g i=Yw n g j:=Em v u (by rw[A,y,e])
 rw[<- WM (f:=g) b,<- WM (f:=g) a,w]
def dd(σ:List α)(k:α):List α:=if k∈σ then σ else σ++[k]
theorem Er{σ:List α}{k x:α}:x∈dd σ k↔x∈σ\/x=k:=by
 unfold dd;split
 ·rename_i h
  exact⟨.inl,λz=>z.elim id λe=>e▸h⟩
 ·rw[mem_append,mem_singleton]
theorem NQ(f:Nat->α):∀ n,(∀ x,x∈((List.range n).map f).foldl dd []↔∃ i,i<n/\f i=x)/\(((List.range n).map f).foldl dd []).length=cnt n f
 | 0=>⟨λx=>by simp,rfl⟩
 | n+1=>by
  obtain⟨c,g⟩:=NQ f n
  rw[range_succ,map_append,foldl_append]
  refine⟨λx=>?_,?_⟩
  ·show x∈dd _ (f n)↔_
   rw[Er,c]
   refine⟨λz=>?_,λ⟨i,b,e⟩=>?_⟩
   ·rcases z with⟨i,b,e⟩|e
    ·exact⟨i,by omega,e⟩
    ·exact⟨n,by omega,e.symm⟩
   ·by_cases h:i<n
    ·exact .inl ⟨i,h,e⟩
    ·have:i=n:=by omega
     subst this
     exact .inr e.symm
  ·show (dd _ (f n)).length=_
   unfold cnt
   rw[range_succ,List.filter_append,List.length_append]
   by_cases a:f n∈((List.range n).map f).foldl dd []
   ·rw[show dd (((List.range n).map f).foldl dd []) (f n)=_ from if_pos a,g]
    obtain⟨i,b,e⟩:=(c _).mp a
    have:Yr f n=false:=by
     unfold Yr
     exact decide_eq_false λz=>z i b e
    simp[this,cnt]
   ·rw[show dd (((List.range n).map f).foldl dd []) (f n)=_ from if_neg a,List.length_append,g]
    have:Yr f n=true:=by
     unfold Yr
     exact decide_eq_true λj m e=>a ((c _).mpr ⟨j,m,e⟩)
    simp[this,cnt]
end
variable{L m:Nat}{al R:List Int}
abbrev tl(al:List Int)(i:Nat):Int:=al.getD i 0
def Yo(L:Nat)(nx:Nat->Nat->Nat)(al:List Int)(i:Nat):Int×List Int:=(tl al i,(List.range L).map λl=>tl al (nx i l))
def YE(n L:Nat)(nx:Nat->Nat->Nat)(al:List Int):List Int:=(List.range n).map λi=>(Yw n (Yo L nx al) i:Int)
inductive Ref(n L:Nat)(nx:Nat->Nat->Nat):List Int->Nat->List Int->Prop
 | done {al:List Int} {m:Nat}:cnt n (tl al)<=m->Ref n L nx al m al
 | step {al R:List Int} {m:Nat}:m<cnt n (tl al)->Ref n L nx (YE n L nx al) (cnt n (tl al)) R->Ref n L nx al m R
theorem NS{nx:Nat->Nat->Nat}:(YE n L nx al).length=n:=by simp[YE]
theorem VY{nx:Nat->Nat->Nat}(hi:i<n):tl (YE n L nx al) i=(Yw n (Yo L nx al) i:Int):=by
 unfold tl YE
 rw[getD_eq_getElem?_getD,getElem?_map,getElem?_range hi]
 rfl
theorem QF{nx:Nat->Nat->Nat}(hi:i<n)(a:j<n):tl (YE n L nx al) i=tl (YE n L nx al) j↔Yo L nx al i=Yo L nx al j:=by
 rw[VY hi,VY a,<- NO (f:=Yo L nx al) hi a]
 exact⟨λe=>by omega,λe=>by omega⟩
theorem NT{nx:Nat->Nat->Nat}(e:Yo L nx al i=Yo L nx al j):tl al i=tl al j/\∀ l,l<L->tl al (nx i l)=tl al (nx j l):=by
 unfold Yo at e
 simp only[Prod.mk.injEq] at e
 refine⟨e.1,λl a=>?_⟩
 have:=congrArg (λxs=>xs[l]?) e.2
 simp only[getElem?_map,getElem?_range a] at this
 exact Option.some.inj this
theorem Et{nx:Nat->Nat->Nat}(h1:tl al i=tl al j)(h2:∀ l,l<L->tl al (nx i l)=tl al (nx j l)):Yo L nx al i=Yo L nx al j:=by
 unfold Yo
 simp only[Prod.mk.injEq]
 exact⟨h1,map_congr_left λl a=>h2 l (mem_range.mp a)⟩
structure Lots(n L:Nat)(nx:Nat->Nat->Nat)(al R:List Int):Prop where
 len:R.length=n
 rg:∀ i,i<n->0<=tl R i/\tl R i<n
 idem:∀ i,i<n->tl R (tl R i).toNat=tl R i
 z:0<n->tl R 0=0
 sg:∀ i j,i<n->j<n->tl R i=tl R j->tl al i=tl al j
 st:∀ i j,i<n->j<n->tl R i=tl R j->∀ l,l<L->tl R (nx i l)=tl R (nx j l)
 co:∀ rel:Nat->Nat->Prop,(∀ i j,rel i j->i<n/\j<n)->(∀ i j,rel i j->tl al i=tl al j)->(∀ i j,rel i j->∀ l,l<L->rel (nx i l) (nx j l))->∀ i j,rel i j->tl R i=tl R j
theorem QG{nx:Nat->Nat->Nat}:TM n (tl (YE n L nx al)) (tl al):=λi j b a e=>(NT ((QF b a).mp e)).1
theorem NU{nx:Nat->Nat->Nat}{rel:Nat->Nat->Prop}(hb:∀ i j,rel i j->i<n/\j<n)(b:∀ i j,rel i j->∀ l,l<L->rel (nx i l) (nx j l))(h:∀ i j,rel i j->tl al i=tl al j):∀ i j,rel i j->tl (YE n L nx al) i=tl (YE n L nx al) j:=λi j r =>
 (QF (hb i j r).1 (hb i j r).2).mpr (Et (h i j r) λl a=>h _ _ (b i j r l a))
theorem Ref.lots{nx:Nat->Nat->Nat}(b:∀ i,i<n->∀ l,l<L->nx i l<n)(h:Ref n L nx al m R) :
  (∃ A,al=YE n L nx A/\m=cnt n (tl A))->Lots n L nx al R:=by
 induction h with
 | @done al m h =>
  rintro⟨A,rfl,rfl⟩
  have same:=Ep (QG (nx:=nx) (L:=L) (al:=A) (n:=n)) h
  refine⟨NS,λi a=>?_,λi a=>?_,λs=>?_,λi j _ _ e=>e,λi j a c e l g=>?_,λrel q r p=>r⟩
  ·rw[VY a]
   have:=WL (f:=Yo L nx A) a
   omega
  ·rw[VY a,Int.toNat_natCast,VY (WL a),Eo a]
  ·rw[VY s]
   have:¬ 0<Yw n (Yo L nx A) 0:=λz=>NM (f:=Yo L nx A) s z rfl
   omega
  ·have:=(NT ((QF a c).mp e)).2 l g
   exact same _ _ (b i a l g) (b j c l g) this
 | @step al R m h _ u =>
  intro _
  obtain⟨E,C,B,y,x,w,v⟩:=u ⟨al,rfl,rfl⟩
  exact⟨E,C,B,y,λi j a c e=>QG i j a c (x i j a c e),w,λrel q r p=>v rel q (NU q p r) p⟩
theorem Eu{f:Nat->Int}(h:0<n):0<cnt n f:=by
 unfold cnt
 refine List.length_pos_of_mem (a:=0) (mem_filter.mpr ⟨mem_range.mpr h,?_⟩)
 unfold Yr
 exact decide_eq_true λj b=>by omega
theorem Ref.lots0{nx:Nat->Nat->Nat}(r:0<n)(a:∀ i,i<n->∀ l,l<L->nx i l<n)(h:Ref n L nx al 0 R):Lots n L nx al R:=by
 cases h with
 | done h=>have:=Eu (f:=tl al) r;omega
 | step h p =>
  obtain⟨A,y,x,w,v,u,s⟩:=p.lots a ⟨al,rfl,rfl⟩
  exact⟨A,y,x,w,λi j c b e=>QG i j c b (v i j c b e),u,λrel m q g=>s rel m (NU m g q) g⟩
theorem Lots.all{nx:Nat->Nat->Nat}(h:Lots n L nx al R)(hi:∀ i j,i<n->j<n->tl R i=tl R j->i=j):∀ i,i<n->tl R i=i:=λi a=>by
 have b:=h.rg i a
 have:=hi _ _ (by omega) a (h.idem i a)
 omega
abbrev ltr(M:Mach):Nat:=(M.rows.getD 0 []).length
theorem QH{F:List Int}(h:x∈F):((F.idxOf x:Nat):Int)<F.length:=by have:=idxOf_lt_length_of_mem h;omega
structure Rb(M:Mach)(st F:List Int):Prop where
 p:Parts 1 64 M
 sk:StOk M st
 bf:Bfs (gR M st) (ltr M) [0] 0 F
 nd:F.Nodup
 u:∀ x∈F,x∈rgI M.rows.length
abbrev Zi(M:Mach)(st F:List Int):Mach:=Yv (thR M st) (sgR M) F
variable{F':List Int}
section
variable{F:List Int}
theorem Rb.all(h:Rb M st F):∀ x∈F,∀ l,l<ltr M->gR M st x l∈F:=h.bf.all λj a z=>by omega
theorem Rb.z(h:Rb M st F):∃ r,F=0::r:=by obtain⟨r,e⟩:=h.bf.pre;exact⟨r,e⟩
theorem Rb.rows(h:Rb M st F):(Zi M st F).rows=F.map λa=>Zy (gR M st) F a (ltr M):=rfl
theorem Rb.len(h:Rb M st F):(Zi M st F).rows.length=F.length:=length_map ..
theorem Rb.slen(h:Rb M st F):(Zi M st F).signs.length=F.length:=length_map ..
theorem Rb.lt(h:Rb M st F):ltr (Zi M st F)=ltr M:=by
 obtain⟨r,e⟩:=h.z
 show (((F.map λa=>Zy (gR M st) F a (ltr M)):List (List Int)).getD 0 []).length=_
 rw[e]
 simp[Zy]
theorem Rb.le(h:Rb M st F):F.length<=M.rows.length:=by
 have:=XE h.nd h.u
 simpa using this
theorem Rb.parts(h:Rb M st F):Parts 1 64 (Zi M st F):=by
 have b:=h.lt
 have i:=h.le
 have m:=h.p.n1
 obtain⟨r,e⟩:=h.z
 have j:0<F.length:=by rw[e];simp
 refine⟨by rw[h.len];exact j,by rw[h.len];omega,by rw[h.len,h.slen],λx c=>?_,?_,?_,λx c=>?_⟩
 ·rw[h.rows] at c
  obtain⟨a,f,rfl⟩:=mem_map.mp c
  refine⟨by rw[show ((Zi M st F).rows.getD 0 []).length=ltr M from b];simp[Zy],λy g=>?_⟩
  obtain⟨l,b,rfl⟩:=mem_map.mp g
  rw[h.len]
  exact⟨by omega,QH (h.all a f l (mem_range.mp b))⟩
 ·rw[show ((Zi M st F).rows.getD 0 []).length=ltr M from b];exact h.p.l0
 ·rw[show ((Zi M st F).rows.getD 0 []).length=ltr M from b];exact h.p.l1
 ·obtain⟨a,f,rfl⟩:=mem_map.mp c
  have:=ZD.mp (h.u a f)
  exact h.p.sg _ (YD (by rw[h.p.s];omega))
theorem Rb.nx(h:Rb M st F){l:Nat}(hi:i<F.length)(hl:l<ltr M):stp (Zi M st F).rows i l=(F.idxOf (gR M st F[i] l):Int):=by
 unfold stp
 rw[Int.toNat_natCast,Int.toNat_natCast,h.rows]
 have b:(F.map λa=>Zy (gR M st) F a (ltr M)).getD i []=Zy (gR M st) F F[i] (ltr M):=by
  rw[getD_eq_getElem?_getD,getElem?_map,getElem?_eq_getElem hi];rfl
 rw[b,getD_eq_getElem?_getD]
 unfold Zy
 rw[getElem?_map,getElem?_range hl]
 rfl
theorem Rb.sg(h:Rb M st F)(hi:i<F.length):(Zi M st F).signs.getD i 0=sgR M F[i]:=by
 show (F.map (sgR M)).getD i 0=_
 rw[getD_eq_getElem?_getD,getElem?_map,getElem?_eq_getElem hi];rfl
theorem Rb.again(h:Rb M st F)(m:Bfs (gR (Zi M st F) (stA (Zi M st F))) (ltr (Zi M st F)) [0] 0 F'):Zi (Zi M st F) (stA (Zi M st F)) F'=Zi M st F:=by
 have A:=h.parts
 have u:=h.lt
 have s:=h.len
 have p:=h.slen
 have q:=λi l (b:i<F.length) c=>h.nx (i:=i) (l:=l) b c
 have g:∀ i (b:i<F.length),(Zi M st F).rows[i]?=some (Zy (gR M st) F F[i] (ltr M)):=λi b=>by
  rw[h.rows,getElem?_map,getElem?_eq_getElem b];rfl
 generalize Zi M st F=D at m A u s p q g
 rw[u] at m
 have n:∀ (i l:Nat),(b:i<F.length)->l<ltr M->gR D (stA D) i l=(F.idxOf (gR M st F[i] l):Int):=λi l b c=>by
  rw[TL A (by omega) (by omega) (by rw[show (D.rows.getD 0 []).length=ltr M from u];exact c)]
  exact q i l b c
 have v:=NI h.bf h.nd
 have w:F'=rgI F.length:=by
  refine m.det (Bfs.congr (U:=rgI F.length) (λx f l c=>?_) (λx f l c=>?_) v λx f=>?_)
  ·have f:=ZD.mp f
   have b:x.toNat<F.length:=by omega
   have y:gN (gR M st) F x l=(F.idxOf (gR M st F[x.toNat] l):Int):=by
    unfold gN;rw[getElem?_eq_getElem b]
   rw[y]
   exact ZD.mpr ⟨by omega,QH (h.all _ (getElem_mem b) l c)⟩
  ·have f:=ZD.mp f
   have b:x.toNat<F.length:=by omega
   have y:gN (gR M st) F x l=(F.idxOf (gR M st F[x.toNat] l):Int):=by
    unfold gN;rw[getElem?_eq_getElem b]
   rw[y,<- n x.toNat l b c]
   congr 1
   omega
  ·obtain⟨r,e⟩:=h.z
   have f:x=0:=by simpa [rgI] using f
   subst f
   exact ZD.mpr ⟨by omega,by rw[e];simp⟩
 subst w
 have E:(rgI F.length).map (λa=>Zy (gR D (stA D)) (rgI F.length) a (ltr M))=D.rows:=by
  refine List.ext_getElem? λi=>?_
  by_cases b:i<F.length
  ·rw[g i b,getElem?_map]
   have j:(rgI F.length)[i]?=some (i:Int):=by simp[rgI,b]
   rw[j]
   show some _=some _
   congr 1
   unfold Zy
   refine map_congr_left λl c=>?_
   have c:=mem_range.mp c
   rw[n i l b c,Ef (idxOf_lt_length_of_mem (h.all _ (getElem_mem b) l c))]
  ·rw[getElem?_eq_none (by rw[length_map,VX];omega),getElem?_eq_none (by omega)]
 have es:(rgI F.length).map (sgR D)=D.signs:=by
  refine ext_getElem (by rw[p];simp[rgI]) λi C B=>?_
  rw[getElem_map]
  have j:(rgI F.length)[i]'(by simpa using C)=(i:Int):=by simp[rgI]
  rw[j]
  unfold sgR
  rw[Int.toNat_natCast,getD_eq_getElem?_getD,getElem?_eq_getElem B]
  rfl
 show Mach.mk ((rgI F.length).map (λa=>Zy (gR D (stA D)) (rgI F.length) a (ltr D))) ((rgI F.length).map (sgR D))=D
 rw[u,E,es]
end
def nxM(M:Mach)(i l:Nat):Nat:=(stp M.rows i l).toNat
theorem TN(h:Parts 1 64 M):∀ i,i<M.rows.length->∀ l,l<ltr M->nxM M i l<M.rows.length:=λi b l a=>by
 have:=h.stp (r:=i) (l:=l) (by omega) (by omega) (by omega) (by show (l:Int)<(ltr M:Nat);omega)
 unfold nxM
 omega
structure LotsM(M:Mach)(R:List Int):Prop where
 ex:∃ al,(∀ i j,i<M.rows.length->j<M.rows.length->(tl al i=tl al j↔tl M.signs i=tl M.signs j))/\Lots M.rows.length (ltr M) (nxM M) al R
variable{p:Int×Int}{R':List Int}
section
variable{F:List Int}
theorem LotsM.sok(h:LotsM M R):StOk M R:=by
 obtain⟨al,_,l⟩:=h.ex
 refine⟨l.len,λy b=>?_⟩
 obtain⟨i,a,rfl⟩:=List.mem_iff_getElem.mp b
 have:=l.rg i (by rw[<- l.len];exact a)
 unfold tl at this
 rw[getD_eq_getElem?_getD,getElem?_eq_getElem a] at this
 exact this
theorem QI{l:Nat}(a:0<=x):gR M R x l=tl R (nxM M x.toNat l):=by
 unfold gR tl nxM
 rw[Int.toNat_of_nonneg a]
theorem NV{α:Type}[DecidableEq α]{g:α->Nat->α}{a:α}{P:α->Prop}{met:List α}(e:∀ x∈met,P x):∀ n,(∀ l,l<n->P (g a l))->∀ x∈ZJ g a met n,P x
 | 0,_=>e
 | n+1,h=>by
  rw[Xt]
  have c:=NV e n λl f=>h l (by omega)
  unfold ZQ
  split
  ·exact c
  ·intro y b
   rcases mem_append.mp b with b|b
   ·exact c y b
   ·rw[mem_singleton.mp b];exact h n (by omega)
theorem Bfs.pred[DecidableEq α]{P:α->Prop}{F:List α}(h:Bfs g n met i F):(∀ x∈met,P x)->(∀ x,P x->∀ l,l<n->P (g x l))->∀ x∈F,P x:=by
 induction h with
 | done _=>exact λa _=>a
 | @step met F i h _ c=>exact λa b=>c (NV a n λl e=>b _ (a _ (getElem_mem h)) l e) b
theorem LotsM.rep(h:LotsM M R)(b:Rb M R F):∀ x:Int,x∈F->tl R x.toNat=x:=by
 obtain⟨al,_,c⟩:=h.ex
 have f:=b.p.n0
 refine λx a=>(b.bf.pred (P:=λx:Int=>(0<=x/\x<M.rows.length)/\tl R x.toNat=x) (λx a=>?_) (λx a l g=>?_) x a).2
 ·rw[mem_singleton.mp a]
  exact⟨⟨by omega,by omega⟩,c.z f⟩
 ·have e:=TN b.p x.toNat (by omega) l g
  rw[QI a.1.1]
  exact⟨c.rg _ e,c.idem _ e⟩
def Bi(M:Mach)(R F:List Int)(p:Int×Int):Prop:=(0<=p.1/\p.1<M.rows.length)/\(0<=p.2/\p.2<F.length)/\tl R p.1.toNat=F.getD p.2.toNat 0
theorem QJ(hi:i<F.length):F.getD i 0=F[i]:=by rw[getD_eq_getElem?_getD,getElem?_eq_getElem hi];rfl
theorem LotsM.bi0(h:LotsM M R)(b:Rb M R F):Bi M R F (0,0):=by
 obtain⟨al,_,c⟩:=h.ex
 obtain⟨r,e⟩:=b.z
 have a:=b.p.n0
 refine⟨⟨by simp,by simp;omega⟩,⟨by simp,by rw[e];simp⟩,?_⟩
 rw[e]
 exact c.z a
theorem LotsM.bis(h:LotsM M R)(b:Rb M R F)(m:Bi M R F p):M.signs.getD p.1.toNat 0=(Zi M R F).signs.getD p.2.toNat 0:=by
 obtain⟨al,n,i⟩:=h.ex
 obtain⟨s,r,g⟩:=m
 have a:p.2.toNat<F.length:=by omega
 rw[b.sg a]
 rw[QJ a] at g
 have f:=getElem_mem a
 have j:=h.rep b _ f
 have q:=ZD.mp (b.u _ f)
 have e:p.1.toNat<M.rows.length:=by omega
 have c:(F[p.2.toNat]).toNat<M.rows.length:=by omega
 have:=i.sg _ _ e c (by rw[g,j])
 exact (n _ _ e c).mp this
theorem LotsM.bin(h:LotsM M R)(b:Rb M R F)(u:Bi M R F p){l:Nat}(hl:l<ltr M):Bi M R F (stp M.rows p.1 l,stp (Zi M R F).rows p.2 l):=by
 obtain⟨al,g,m⟩:=h.ex
 obtain⟨f,w,i⟩:=u
 have e:p.2.toNat<F.length:=by omega
 have c:=getElem_mem e
 have s:=h.rep b _ c
 have r:=ZD.mp (b.u _ c)
 rw[QJ e] at i
 have q:p.1.toNat<M.rows.length:=by omega
 have n:(F[p.2.toNat]).toNat<M.rows.length:=by omega
 have a:=b.nx e hl
 rw[Int.toNat_of_nonneg w.1] at a
 have g:=b.all _ c l hl
 have j:=b.p.stp f.1 f.2 (l:=l) (by omega) (by show (l:Int)<(ltr M:Nat);omega)
 have v:=idxOf_lt_length_of_mem g
 refine⟨j,⟨by rw[a];omega,by rw[a];omega⟩,?_⟩
 show tl R (stp M.rows p.1 l).toNat=F.getD (stp (Zi M R F).rows p.2 l).toNat 0
 rw[a,Int.toNat_natCast,QJ v,getElem_idxOf,QI r.1]
 have:=m.st _ _ q n (by rw[i,s]) l hl
 rw[<- this]
 unfold nxM
 rw[Int.toNat_of_nonneg f.1]
theorem LotsM.apart(h:LotsM M R)(b:Rb M R F)(h':LotsM (Zi M R F) R'):∀ i j,i<F.length->j<F.length->tl R' i=tl R' j->i=j:=by
 obtain⟨al,Q,H⟩:=h.ex
 obtain⟨X,u,n⟩:=h'.ex
 rw[b.len,b.lt] at n
 rw[b.len] at u
 let num:=λx:Nat=>F.idxOf (tl R x)
 let rel:=λx y:Nat=>(x<M.rows.length/\tl R x∈F)/\(y<M.rows.length/\tl R y∈F)/\tl R' (num x)=tl R' (num y)
 have a:∀ x,tl R x∈F->num x<F.length:=λx c=>idxOf_lt_length_of_mem c
 have m:∀ x (c:tl R x∈F),F[num x]'(a x c)=tl R x:=λx c=>getElem_idxOf (a x c)
 have step:∀ x,x<M.rows.length->tl R x∈F->∀ l,l<ltr M->nxM M x l<M.rows.length/\tl R (nxM M x l)∈F/\num (nxM M x l)=nxM (Zi M R F) (num x) l:=λx c f l g=>by
  have I:=h.rep b _ f
  have N:=ZD.mp (b.u _ f)
  have e:=H.st x (tl R x).toNat c (by omega) I.symm l g
  have J:=b.nx (a x f) g
  rw[m x f] at J
  have S:gR M R (tl R x) l=tl R (nxM M x l):=by rw[QI N.1,<- e]
  rw[S] at J
  refine⟨TN b.p x c l g,by rw[<- S];exact b.all _ f l g,?_⟩
  show F.idxOf (tl R (nxM M x l))=(stp (Zi M R F).rows (num x) l).toNat
  rw[J,Int.toNat_natCast]
 have s:∀ x,x<M.rows.length->tl R x∈F->tl (Zi M R F).signs (num x)=tl M.signs x:=λx c f=>by
  have I:=h.rep b _ f
  have N:=ZD.mp (b.u _ f)
  have e:=b.sg (a x f)
  rw[m x f] at e
  show (Zi M R F).signs.getD (num x) 0=_
  rw[e]
  exact (Q _ _ (by omega) c).mp (H.sg _ _ (by omega) c I)
 have co:=H.co rel (λi j r=>⟨r.1.1,r.2.1.1⟩) (λi j r=>?_) (λi j r l g=>?_)
 ·intro i j P O e
  have G:=getElem_mem P
  have E:=getElem_mem O
  have w:=h.rep b _ G
  have v:=h.rep b _ E
  have ui:=ZD.mp (b.u _ G)
  have uj:=ZD.mp (b.u _ E)
  have L:num (F[i]).toNat=i:=by show F.idxOf (tl R (F[i]).toNat)=i;rw[w];exact b.nd.idxOf_getElem i P
  have K:num (F[j]).toNat=j:=by show F.idxOf (tl R (F[j]).toNat)=j;rw[v];exact b.nd.idxOf_getElem j O
  have:=co (F[i]).toNat (F[j]).toNat ⟨⟨by omega,by rw[w];exact G⟩,⟨by omega,by rw[v];exact E⟩,by rw[L,K];exact e⟩
  rw[w,v] at this
  have z:num (F[i]).toNat=num (F[j]).toNat:=by show F.idxOf (tl R (F[i]).toNat)=F.idxOf (tl R (F[j]).toNat);rw[w,v,this]
  rw[L,K] at z
  exact z
 ·obtain⟨⟨B,q⟩,⟨A,p⟩,C⟩:=r
  refine (Q _ _ B A).mpr ?_
  rw[<- s i B q,<- s j A p]
  exact (u _ _ (a i q) (a j p)).mp (n.sg _ _ (a i q) (a j p) C)
 ·obtain⟨⟨B,q⟩,⟨A,p⟩,C⟩:=r
  obtain⟨a1,Z,Y⟩:=step i B q l g
  obtain⟨W,U,T⟩:=step j A p l g
  refine⟨⟨a1,Z⟩,⟨W,U⟩,?_⟩
  rw[Y,T]
  exact n.st _ _ (a i q) (a j p) C l g
theorem LotsM.id(h:LotsM M R)(b:Rb M R F)(h':LotsM (Zi M R F) R'):R'=rgI F.length:=by
 obtain⟨m,g,a⟩:=h'.ex
 have c:R'.length=F.length:=by rw[a.len];exact b.len
 have:=a.all (by rw[b.len];exact h.apart b h')
 rw[b.len] at this
 refine ext_getElem (by rw[c,VX]) λi j n=>?_
 have f:i<F.length:=by omega
 have e:=this i f
 unfold tl at e
 rw[getD_eq_getElem?_getD,getElem?_eq_getElem j] at e
 simp[rgI]
 exact e
end
theorem Ref.ex{n L:Nat}{nx:Nat->Nat->Nat}:∀ (k:Nat) (al:List Int) (m:Nat),n-m<=k->∃ R,Ref n L nx al m R
 | 0,al,m,h=>⟨al,.done (by have:=QE n (tl al);omega)⟩
 | k+1,al,m,h=>by
  by_cases a:cnt n (tl al)<=m
  ·exact⟨al,.done a⟩
  ·obtain⟨R,b⟩:=Ref.ex (n:=n) (L:=L) (nx:=nx) k (YE n L nx al) (cnt n (tl al)) (by have:=QE n (tl al);omega)
   exact⟨R,.step (by omega) b⟩
theorem LotsM.any(a:Parts 1 64 M):∃ R,LotsM M R:=by
 obtain⟨R,h⟩:=Ref.ex (n:=M.rows.length) (L:=ltr M) (nx:=nxM M) M.rows.length M.signs 0 (by omega)
 exact⟨R,M.signs,λ_ _ _ _=>Iff.rfl,h.lots0 a.n0 (TN a)⟩
theorem Rb.co{M:Mach}{R F:List Int}(h:LotsM M R)(b:Rb M R F)(rel:Nat->Nat->Prop)(h1:∀ i j,rel i j->i<F.length/\j<F.length)(h2:∀ i j,rel i j->tl (Zi M R F).signs i=tl (Zi M R F).signs j)(g:∀ i j,rel i j->∀ l,l<ltr M->rel (nxM (Zi M R F) i l) (nxM (Zi M R F) j l)):∀ i j,rel i j->i=j:=by
 obtain⟨n,a⟩:=LotsM.any b.parts
 have m:=h.apart b a
 obtain⟨al,f,c⟩:=a.ex
 rw[b.len,b.lt] at c
 rw[b.len] at f
 intro i j r
 have e:=h1 i j r
 exact m i j e.1 e.2 (c.co rel h1 (λi j r=>(f _ _ (h1 i j r).1 (h1 i j r).2).mpr (h2 i j r)) g i j r)
variable{A:List α}
section
variable [DecidableEq α][DecidableEq β]
structure Sim(E:α->β->Prop)(A:List α)(B:List β):Prop where
 len:A.length=B.length
 at':∀ k (h:k<A.length) (h2:k<B.length),E A[k] B[k]
theorem Sim.add{E:α->β->Prop}(n:∀ x y f,E x y->E x f->y=f)(inj:∀ x g y,E x y->E g y->x=g){B:List β}(s:Sim E A B){x:α}{y:β}(h:E x y):Sim E (ZQ A x) (ZQ B y):=by
 have e:x∈A↔y∈B:=by
  refine⟨λb=>?_,λj=>?_⟩
  ·obtain⟨k,c,rfl⟩:=List.mem_iff_getElem.mp b
   have a:k<B.length:=by have:=s.len;omega
   rw[n _ _ _ h (s.at' k c a)]
   exact getElem_mem a
  ·obtain⟨k,c,rfl⟩:=List.mem_iff_getElem.mp j
   have a:k<A.length:=by have:=s.len;omega
   rw[inj _ _ _ h (s.at' k a c)]
   exact getElem_mem a
 unfold ZQ
 by_cases b:x∈A
 ·rw[if_pos b,if_pos (e.mp b)];exact s
 ·rw[if_neg b,if_neg λz=>b (e.mpr z)]
  have i:=s.len
  refine⟨by simp[i],λk m p=>?_⟩
  by_cases c:k<A.length
  ·rw[getElem_append_left c,getElem_append_left (by omega)]
   exact s.at' k c (by omega)
  ·have:k=A.length:=by simp at m;omega
   subst this
   simp[i]
   exact h
theorem Sim.grow{E:α->β->Prop}(c:∀ x y a,E x y->E x a->y=a)(inj:∀ x b y,E x y->E b y->x=b){g:α->Nat->α}{g':β->Nat->β}{A:List α}{B:List β}(s:Sim E A B){x:α}{y:β}:∀ n,(∀ l,l<n->E (g x l) (g' y l))->Sim E (ZJ g x A n) (ZJ g' y B n)
 | 0,_=>s
 | n+1,h=>by
  rw[Xt,Xt]
  exact Sim.add c inj (Sim.grow c inj s n λl e=>h l (by omega)) (h n (by omega))
theorem Sim.bfs{E:α->β->Prop}(q:∀ x y e,E x y->E x e->y=e)(inj:∀ x f y,E x y->E f y->x=f){g':β->Nat->β}(cl:∀ x y,E x y->∀ l,l<n->E (g x l) (g' y l)){c:List α}(h:Bfs g n A i c):∀ {B a:List β},Sim E A B->Bfs g' n B i a->Sim E c a:=by
 induction h with
 | @done A i h =>
  intro B a s h'
  cases h' with
  | done _=>exact s
  | step b _=>have:=s.len;omega
 | @step A c i h _ j =>
  intro B a s h'
  cases h' with
  | done b=>have:=s.len;omega
  | step b p=>exact j (Sim.grow q inj s n λl m=>cl _ _ (s.at' i h b) l m) p
end
theorem Rb.self{F:List Int}(h:Rb M st F):Bfs (gR (Zi M st F) (stA (Zi M st F))) (ltr M) [0] 0 (rgI F.length):=by
 have j:=h.parts
 have i:=h.len
 have f:=NI h.bf h.nd
 refine Bfs.congr (U:=rgI F.length) (λx a l c=>?_) (λx a l c=>?_) f λx a=>?_
 ·have a:=ZD.mp a
  have b:x.toNat<F.length:=by omega
  have g:gN (gR M st) F x l=(F.idxOf (gR M st F[x.toNat] l):Int):=by
   unfold gN;rw[getElem?_eq_getElem b]
  rw[g]
  exact ZD.mpr ⟨by omega,QH (h.all _ (getElem_mem b) l c)⟩
 ·have a:=ZD.mp a
  have b:x.toNat<F.length:=by omega
  have g:gN (gR M st) F x l=(F.idxOf (gR M st F[x.toNat] l):Int):=by
   unfold gN;rw[getElem?_eq_getElem b]
  rw[g,<- h.nx b c,TL j a.1 (by omega) (by rw[show ((Zi M st F).rows.getD 0 []).length=ltr M from h.lt];exact c)]
  congr 1
  omega
 ·obtain⟨r,e⟩:=h.z
  have a:x=0:=by simpa [rgI] using a
  subst a
  exact ZD.mpr ⟨by omega,by rw[e];simp⟩
theorem Ew{F:List Int}(h:LotsM M R)(b:Rb M R F)(h':LotsM N R')(n:Rb N R' F')(hl:ltr M=ltr N)(Q:Int×Int->Prop)(q0:Q (0,0))(qn:∀ p,Q p->((0<=p.1/\p.1<M.rows.length)/\0<=p.2/\p.2<N.rows.length)/\M.signs.getD p.1.toNat 0=N.signs.getD p.2.toNat 0/\∀ l,l<ltr M->Q (stp M.rows p.1 l,stp N.rows p.2 l)):Zi M R F=Zi N R' F':=by
 let E:Int->Int->Prop:=λi j=>∃ x y,Q (x,y)/\Bi M R F (x,i)/\Bi N R' F' (y,j)
 have E0:E 0 0:=⟨0,0,q0,h.bi0 b,h'.bi0 n⟩
 have u:∀ i j,E i j->∀ l,l<ltr M->E (stp (Zi M R F).rows i l) (stp (Zi N R' F').rows j l):=λi j ⟨x,y,q,p1,p2⟩ l a=>⟨_,_,(qn _ q).2.2 l a,h.bin b p1 a,h'.bin n p2 (by omega)⟩
 have I:∀ i j,E i j->(Zi M R F).signs.getD i.toNat 0=(Zi N R' F').signs.getD j.toNat 0:=λi j ⟨x,y,q,p1,p2⟩=>by rw[<- h.bis b p1,<- h'.bis n p2];exact (qn _ q).2.1
 have m:∀ i j,E i j->(0<=i/\i<F.length)/\0<=j/\j<F'.length:=λi j ⟨x,y,q,p1,p2⟩=>⟨p1.2.1,p2.2.1⟩
 have fu:∀ x y J,E x y->E x J->y=J:=λx y J f c=>by
  have:=Rb.co h' n (λi j=>∃ x,E x i/\E x j) (λi j ⟨x,f,c⟩=>by have:=m _ _ f;have:=m _ _ c;omega) (λi j ⟨x,f,c⟩=>by
   have G:=I _ _ f;have w:=I _ _ c
   rw[Int.toNat_natCast] at G w
   exact G.symm.trans w) (λi j ⟨x,f,c⟩ l a=>by
   have v:=u _ _ f l (by omega)
   have t2:=u _ _ c l (by omega)
   have S:=(m _ _ v).2.1
   have P:=(m _ _ t2).2.1
   refine⟨_,(?_:E (stp (Zi M R F).rows x l) _),?_⟩
   ·unfold nxM;rw[Int.toNat_of_nonneg S];exact v
   ·unfold nxM;rw[Int.toNat_of_nonneg P];exact t2) y.toNat J.toNat
  have U:=(m _ _ f).2
  have T:=(m _ _ c).2
  have:=this ⟨x,by rw[Int.toNat_of_nonneg U.1];exact f,by rw[Int.toNat_of_nonneg T.1];exact c⟩
  omega
 have inj:∀ x K y,E x y->E K y->x=K:=λx K y f c=>by
  have:=Rb.co h b (λi j=>∃ y,E i y/\E j y) (λi j ⟨x,f,c⟩=>by have:=m _ _ f;have:=m _ _ c;omega) (λi j ⟨x,f,c⟩=>by
   have G:=I _ _ f;have w:=I _ _ c
   rw[Int.toNat_natCast] at G w
   exact G.trans w.symm) (λi j ⟨x,f,c⟩ l a=>by
   have v:=u _ _ f l (by omega)
   have t2:=u _ _ c l (by omega)
   have S:=(m _ _ v).1.1
   have P:=(m _ _ t2).1.1
   refine⟨_,(?_:E _ (stp (Zi N R' F').rows x l)),?_⟩
   ·unfold nxM;rw[Int.toNat_of_nonneg S];exact v
   ·unfold nxM;rw[Int.toNat_of_nonneg P];exact t2) x.toNat K.toNat
  have U:=(m _ _ f).1
  have T:=(m _ _ c).1
  have:=this ⟨y,by rw[Int.toNat_of_nonneg U.1];exact f,by rw[Int.toNat_of_nonneg T.1];exact c⟩
  omega
 have gA:∀ x:Int,0<=x->x<F.length->∀ l,l<ltr M->gR (Zi M R F) (stA (Zi M R F)) x l=stp (Zi M R F).rows x l:=λx W g l a=>TL b.parts W (by rw[b.len];exact g) (by rw[show ((Zi M R F).rows.getD 0 []).length=ltr M from b.lt];exact a)
 have gB:∀ x:Int,0<=x->x<F'.length->∀ l,l<ltr N->gR (Zi N R' F') (stA (Zi N R' F')) x l=stp (Zi N R' F').rows x l:=λx W g l a=>TL n.parts W (by rw[n.len];exact g) (by rw[show ((Zi N R' F').rows.getD 0 []).length=ltr N from n.lt];exact a)
 have s:=Sim.bfs fu inj (g':=gR (Zi N R' F') (stA (Zi N R' F'))) (cl:=λx y e l a=>by
  have i:=m _ _ e
  rw[gA x i.1.1 i.1.2 l a,gB y i.2.1 i.2.2 l (by omega)]
  exact u _ _ e l a) b.self (B:=[0]) ⟨rfl,λk g H=>by
   have:k=0:=by simpa using g
   subst this
   exact E0⟩ (by rw[hl];exact n.self)
 have r:F.length=F'.length:=by have:=s.len;simpa using this
 have Y:∀ k,k<F.length->E (k:Int) (k:Int):=λk hk=>by
  have:=s.at' k (by simpa using hk) (by simpa [<- r] using hk)
  simpa [rgI] using this
 have O:(Zi M R F).rows=(Zi N R' F').rows:=by
  refine ext_getElem (by rw[b.len,n.len,r]) λk g H=>?_
  rw[b.len] at g
  have L:=b.parts.row _ (getElem_mem (show k<(Zi M R F).rows.length by rw[b.len];exact g))
  have Z:=n.parts.row _ (getElem_mem H)
  rw[show ((Zi M R F).rows.getD 0 []).length=ltr M from b.lt] at L
  rw[show ((Zi N R' F').rows.getD 0 []).length=ltr N from n.lt] at Z
  refine ext_getElem (by rw[L.1,Z.1,hl]) λl X g2=>?_
  rw[L.1] at X
  have e:=u _ _ (Y k g) l X
  have v1:stp (Zi M R F).rows k l=(Zi M R F).rows[k][l]:=by
   unfold stp
   rw[Int.toNat_natCast,Int.toNat_natCast,getD_eq_getElem?_getD (l:=(Zi M R F).rows),getElem?_eq_getElem (by rw[b.len];exact g)]
   show ((Zi M R F).rows[k]).getD l 0=_
   rw[getD_eq_getElem?_getD,getElem?_eq_getElem (by rw[L.1];exact X)]
   rfl
  have v2:stp (Zi N R' F').rows k l=(Zi N R' F').rows[k][l]:=by
   unfold stp
   rw[Int.toNat_natCast,Int.toNat_natCast,getD_eq_getElem?_getD (l:=(Zi N R' F').rows),getElem?_eq_getElem H]
   show ((Zi N R' F').rows[k]).getD l 0=_
   rw[getD_eq_getElem?_getD,getElem?_eq_getElem g2]
   rfl
  rw[<- v1,<- v2]
  have i:=(m _ _ e).1
  have c:=Y (stp (Zi M R F).rows k l).toNat (by omega)
  rw[Int.toNat_of_nonneg i.1] at c
  exact (fu _ _ _ e c).symm
 have es:(Zi M R F).signs=(Zi N R' F').signs:=by
  refine ext_getElem (by rw[b.slen,n.slen,r]) λk g H=>?_
  rw[b.slen] at g
  have:=I _ _ (Y k g)
  rw[Int.toNat_natCast,getD_eq_getElem?_getD,getElem?_eq_getElem (by rw[b.slen];exact g),getD_eq_getElem?_getD,getElem?_eq_getElem H] at this
  exact this
 generalize Zi M R F=A at O es
 generalize Zi N R' F'=C at O es
 obtain⟨a1,a2⟩:=A
 obtain⟨c1,c2⟩:=C
 simp only at O es
 rw[O,es]
def feI[DecidableEq α](xs:List α):List Int:=xs.map λx=>(xs.idxOf x:Int)
def PreF(e:α->PyData)(xs:List α)(ds:List PyData):Prop:=ds=[.list (xs.map e)]/\xs.length<=1000
def Ex(e:α->PyData)(xs:List α)(ds:List PyData):Prop:=ds=[.tuple (xs.map e)]/\xs.length<=1000
def S_fe[DecidableEq α](e:α->PyData)(ds:List PyData)(c:AV):Prop:=∃ xs:List α,PreF e xs ds/\c=oI (feI xs)
def Ey[DecidableEq α](e:α->PyData)(ds:List PyData)(c:AV):Prop:=∃ xs:List α,Ex e xs ds/\c=oI (feI xs)
def Yx[DecidableEq α](xs:List α)(i:Nat)(kvs:List (α×PyData)):Prop:=kvs.length<=i/\∀ c,ZG kvs c=if c∈xs.take i then some (.int (xs.idxOf c:Nat)) else none
theorem Yx.zero[DecidableEq α](xs:List α):Yx xs 0 []:=⟨Nat.le_refl _,λc=>by simp[ZG]⟩
theorem QK{c:α}(hi:i<xs.length):c∈xs.take (i+1)↔c∈xs.take i\/c=xs[i]:=by
 rw[List.take_add_one,getElem?_eq_getElem hi,mem_append]
 exact⟨λz=>z.imp id (λz=>mem_singleton.mp z),λz=>z.imp id (λz=>mem_singleton.mpr z)⟩
variable{kvs:List (α×PyData)}
theorem Yx.old[DecidableEq α](h:Yx xs i kvs)(hi:i<xs.length)(b:xs[i]∈xs.take i):Yx xs (i+1) kvs:=by
 refine⟨by have:=h.1;omega,λc=>?_⟩
 rw[h.2 c]
 have:(c∈xs.take (i+1))↔c∈xs.take i:=(QK hi).trans ⟨λz=>z.elim id λe=>e▸b,.inl⟩
 by_cases a:c∈xs.take i
 ·rw[if_pos a,if_pos (this.mpr a)]
 ·rw[if_neg a,if_neg λz=>a (this.mp z)]
theorem Ez[DecidableEq α](hi:i<xs.length)(a:xs[i]∉xs.take i):xs.idxOf xs[i]=i:=by
 have e:xs=xs.take i++xs[i]::xs.drop (i+1):=by rw[<- List.drop_eq_getElem_cons hi,List.take_append_drop]
 have:(xs.take i++xs[i]::xs.drop (i+1)).idxOf xs[i]=i:=by
  rw[idxOf_append,if_neg a,List.idxOf_cons_self,length_take]
  omega
 rw[<- e] at this
 exact this
theorem Yx.new[DecidableEq α](h:Yx xs i kvs)(hi:i<xs.length)(b:xs[i]∉xs.take i):Yx xs (i+1) (YF kvs xs[i] (.int i)):=by
 refine⟨by have:=h.1;have:=Hl kvs xs[i] (.int i);omega,λc=>?_⟩
 rw[Hk]
 by_cases e:c=xs[i]
 ·rw[if_pos e,if_pos ((QK hi).mpr (.inr e)),e,Ez hi b]
 ·rw[if_neg e,h.2 c]
  have:(c∈xs.take (i+1))↔c∈xs.take i:=(QK hi).trans ⟨λz=>z.elim id λz=>absurd z e,.inl⟩
  by_cases a:c∈xs.take i
  ·rw[if_pos a,if_pos (this.mpr a)]
  ·rw[if_neg a,if_neg λz=>a (this.mp z)]
theorem Yx.get[DecidableEq α](h:Yx xs xs.length kvs)(hi:i<xs.length):ZG kvs xs[i]=some (.int (xs.idxOf xs[i]:Nat)):=by
 rw[h.2,List.take_length,if_pos (getElem_mem hi)]
theorem EA(T:Txt K mg)[DecidableEq α](F:KEnc e):Cal P w K mg base CX0 1 "first_equals" ["things"] [] (spV K (S_fe e) NX):=by
 refine val T.x_first_equals Wv (λds c ⟨xs,⟨e,_⟩,_⟩=>by rw[e];rfl) (λf q A h s H E p=>?_) [] (by simp)
 refine⟨_,(Ze (Zp (i:=1) Wv.nd rfl (Or.inr rfl) PK)
   (Ze (YY PassesOwn.never rfl (K6 (K:=K) rfl rfl T.n_enumerate (Za (pv 0) Zb)) (U6 (K:=K) (n:=2) rfl rfl (Xk (ZI (i:=2) Wv.nd rfl (Or.inl rfl)) (Xk (ZI (i:=3) Wv.nd rfl (Or.inl rfl)) Ua)))
    (Zh (W4 (Zw (Tb (K:=K) rfl p.units) (pv 3) (pv 1) (by with_unfolding_all rfl))
     (Zh (Ub (pv 2) (UN (pv 1) (pv 3) (U9 p.units))))
     ZO)))
   (Zh (Zq (Y1 (N:=["thing", "firsts"]) (cap:=[none,some 1]) rfl rfl rfl (by kernel_rfl) (Xo (K:=K) rfl (pv 0)) (λ_ _ _ _=>(ZI (i:=0) (show (["thing", "firsts"]:List Str).Nodup from by decide +kernel) rfl (Or.inl rfl))) (λ_ _ _ _=>YO) (λ_ _ _ _=>(Zj (Zk (K:=K) rfl p.units) (pv 1) (pv 0) (λ_ _=>rfl)))))))),?_⟩
 rintro ds c ⟨xs,⟨rfl,hz⟩,rfl⟩
 show Sv K _ _ _ [some (.d (.list (xs.map e))),none,none,none] _
 k_head
 refine Hr (α:=α) ?_
 k_head
 refine⟨_,xs,e,rfl,rfl,⟨_,rfl⟩,λi a=>∃ (kvs:List (α×PyData)) (m j:Option AV),a=[some (.d (.list (xs.map e))),some (.dic (Zz e kvs)),m,j]/\Yx xs i kvs,⟨[],none,none,rfl,Yx.zero xs⟩,?_,?_⟩
 ·rintro i a g ⟨kvs,m,j,rfl,I⟩
  refine Tp ?_
  k_head
  refine W5 (λa=>∃ (kvs:List (α×PyData)),a=[some (.d (.list (xs.map e))),some (.dic (Zz e kvs)),some (.d (.int i)),some (.d (e xs[i]))]/\Yx xs (i+1) kvs) (λa ⟨kvs,e,I⟩=>⟨kvs,_,_,e,I⟩) ?_
  k_head
  refine Ru F (c:=xs[i]) (kvs:=kvs) rfl rfl ?_
  rw[I.2]
  by_cases b:xs[i]∈xs.take i
  ·rw[if_pos b]
   k_head
   show (if (!true)=true then _ else _)
   refine Tg ?_
   k_head
   exact⟨kvs,rfl,I.old g b⟩
  ·rw[if_neg b]
   k_head
   show (if (!false)=true then _ else _)
   refine Ti ?_
   k_head
   refine Ow F (by have:=I.1;omega) ?_
   k_head
   refine⟨_,xs[i],rfl,rfl,NR.av,?_⟩
   exact⟨_,rfl,I.new g b⟩
 ·rintro a ⟨kvs,m,j,rfl,I⟩
  k_head
  refine Wi (α:=α) ?_
  k_head
  refine⟨xs,e,λx=>.d (.int (xs.idxOf x:Nat)),.inl rfl,NR.av,by omega,λi g=>?_,_,Got.own (YR λ_=>rfl),?_⟩
  ·show Gv K _ _ [none,some (.d (.dict (Zz e kvs)))] _
   k_head
   refine⟨Y7,?_⟩
   k_head
   exact Rv F (c:=xs[i]) (kvs:=kvs) rfl rfl (I.get g) (Zs.flat rfl) rfl
  refine Wl ?_
  rw[oI,feI,map_map]
  rfl
theorem EB(T:Txt K mg)[DecidableEq α](F:KEnc e):Cal P w K mg base CX0 1 "first_equals" ["things"] [] (spV K (Ey e) NX):=by
 refine val T.x_first_equals Wv (λds c ⟨xs,⟨e,_⟩,_⟩=>by rw[e];rfl) (λf q A h s H E p=>?_) [] (by simp)
 refine⟨_,(Ze (Zp (i:=1) Wv.nd rfl (Or.inr rfl) PK)
   (Ze (YY PassesOwn.never rfl (OC (K:=K) rfl rfl T.n_enumerate (Za (pv 0) Zb)) (U6 (K:=K) (n:=2) rfl rfl (Xk (ZI (i:=2) Wv.nd rfl (Or.inl rfl)) (Xk (ZI (i:=3) Wv.nd rfl (Or.inl rfl)) Ua)))
    (Zh (W4 (Zw (Tb (K:=K) rfl p.units) (pv 3) (pv 1) (by with_unfolding_all rfl))
     (Zh (Ub (pv 2) (UN (pv 1) (pv 3) (U9 p.units))))
     ZO)))
   (Zh (Zq (Y1 (N:=["thing", "firsts"]) (cap:=[none,some 1]) rfl rfl rfl (by kernel_rfl) (Xo (K:=K) rfl (pv 0)) (λ_ _ _ _=>(ZI (i:=0) (show (["thing", "firsts"]:List Str).Nodup from by decide +kernel) rfl (Or.inl rfl))) (λ_ _ _ _=>YO) (λ_ _ _ _=>(Zj (Zk (K:=K) rfl p.units) (pv 1) (pv 0) (λ_ _=>rfl)))))))),?_⟩
 rintro ds c ⟨xs,⟨rfl,hz⟩,rfl⟩
 show Sv K _ _ _ [some (.d (.tuple (xs.map e))),none,none,none] _
 k_head
 refine Hw (α:=α) ?_
 k_head
 refine⟨_,xs,e,rfl,rfl,NR.av,⟨_,rfl⟩,λi a=>∃ (kvs:List (α×PyData)) (m j:Option AV),a=[some (.d (.tuple (xs.map e))),some (.dic (Zz e kvs)),m,j]/\Yx xs i kvs,⟨[],none,none,rfl,Yx.zero xs⟩,?_,?_⟩
 ·rintro i a g ⟨kvs,m,j,rfl,I⟩
  refine Tp ?_
  k_head
  refine W5 (λa=>∃ (kvs:List (α×PyData)),a=[some (.d (.tuple (xs.map e))),some (.dic (Zz e kvs)),some (.d (.int i)),some (.d (e xs[i]))]/\Yx xs (i+1) kvs) (λa ⟨kvs,e,I⟩=>⟨kvs,_,_,e,I⟩) ?_
  k_head
  refine Ru F (c:=xs[i]) (kvs:=kvs) rfl rfl ?_
  rw[I.2]
  by_cases b:xs[i]∈xs.take i
  ·rw[if_pos b]
   k_head
   show (if (!true)=true then _ else _)
   refine Tg ?_
   k_head
   exact⟨kvs,rfl,I.old g b⟩
  ·rw[if_neg b]
   k_head
   show (if (!false)=true then _ else _)
   refine Ti ?_
   k_head
   refine Ow F (by have:=I.1;omega) ?_
   k_head
   refine⟨_,xs[i],rfl,rfl,NR.av,?_⟩
   exact⟨_,rfl,I.new g b⟩
 ·rintro a ⟨kvs,m,j,rfl,I⟩
  k_head
  refine Wi (α:=α) ?_
  k_head
  refine⟨xs,e,λx=>.d (.int (xs.idxOf x:Nat)),.inr rfl,NR.av,by omega,λi g=>?_,_,Got.own (YR λ_=>rfl),?_⟩
  ·show Gv K _ _ [none,some (.d (.dict (Zz e kvs)))] _
   k_head
   refine⟨Y7,?_⟩
   k_head
   exact Rv F (c:=xs[i]) (kvs:=kvs) rfl rfl (I.get g) (Zs.flat rfl) rfl
  refine Wl ?_
  rw[oI,feI,map_map]
  rfl
theorem EC{nx:Nat->Nat->Nat}:feI ((List.range n).map (Yo L nx al))=YE n L nx al:=by
 unfold feI YE Yw
 rw[map_map]
 rfl
theorem ED(p:Int×List Int):ZE (dQ p)=true:=by
 simp only[ZE,noLsts,Bool.and_true,Bool.true_and]
 exact Xn _
abbrev EF(M:Mach)(al:List Int):List (Int×List Int):=(List.range M.rows.length).map (Yo (ltr M) (nxM M) al)
theorem EG(c:Parts 1 64 M)(hi:i<M.rows.length):(M.rows[i].map λy=>tl al y.toNat)=(List.range (ltr M)).map λl=>tl al (nxM M i l):=by
 have b:=(c.row _ (getElem_mem hi)).1
 refine ext_getElem (by rw[length_map,length_map,length_range];exact b) λl a e=>?_
 rw[length_map] at a
 rw[getElem_map,getElem_map,getElem_range]
 congr 1
 unfold nxM stp
 rw[Int.toNat_natCast,Int.toNat_natCast,getD_eq_getElem?_getD (l:=M.rows),getElem?_eq_getElem hi]
 show _=(M.rows[i].getD l 0).toNat
 rw[getD_eq_getElem?_getD,getElem?_eq_getElem a]
 rfl
theorem EH{o o':Option AV}{r:Sl}:Wk (o::o'::r) (none::none::r):=λ_ _ _ _ _ _ s=>(s.drop (i:=0)).drop (i:=1)
def EI(ds:List PyData)(M:Mach)(al:List Int):Prop:=ds=[tR M.rows,dI al]/\Parts 1 64 M/\al.length=M.rows.length
def EJ(ds:List PyData)(c:AV):Prop:=∃ M al,EI ds M al/\c=oI (YE M.rows.length (ltr M) (nxM M) al)
theorem EK(T:Txt K mg):Cal P w K mg base CX0 2 "parted" ["rows", "alike"] [] (spV K EJ NX):=by
 have c_first_equals:Cal P w K mg base _ _ _ _ _ _:=EA T KEnc.nest
 refine val T.x_parted Fb (λds c ⟨M,al,⟨e,_⟩,_⟩=>by rw[e];rfl) (λf v A h s H E j=>?_) [] (by simp)
 refine⟨_,(Zh (Zq (Zg (c_first_equals.mono (by decide)) j rfl pass0 (Za (Y1 (N:=["room", "row", "alike"]) (cap:=[none,none,some 1]) rfl rfl rfl (by kernel_rfl) (OC (K:=K) rfl rfl T.n_enumerate (Za (pv 0) Zb)) (λ_ _ _ _=>(U6 (K:=K) (n:=2) rfl rfl (Xk (ZI (i:=0) (show (["room", "row", "alike"]:List Str).Nodup from by decide +kernel) rfl (Or.inl rfl)) (Xk (ZI (i:=1) (show (["room", "row", "alike"]:List Str).Nodup from by decide +kernel) rfl (Or.inl rfl)) Ua)))) (λ_ _ _ _=>YO) (λ_ _ _ _=>(Yd (Za (Zj (Zk (K:=K) rfl j.units) (pv 2) (pv 0) (λ_ _=>rfl)) (Za (Yk (Y3 (K:=K) rfl) rfl T.n_tuple PyProof.Rows.boot_tuple (Za (Y1 (N:=["led", "alike"]) (cap:=[none,some 2]) rfl rfl rfl (by kernel_rfl) (Xo (K:=K) rfl (pv 1)) (λ_ _ _ _=>(ZI (i:=0) (show (["led", "alike"]:List Str).Nodup from by decide +kernel) rfl (Or.inl rfl))) (λ_ _ _ _=>YO) (λ_ _ _ _=>(Zj (Zk (K:=K) rfl j.units) (pv 1) (pv 0) (λ_ _=>rfl)))) Zb)) Zb))))) Zb)))),?_⟩
 rintro ds c ⟨M,al,⟨rfl,hP,hl⟩,rfl⟩
 show Sv K _ _ _ [some (.d (tR M.rows)),some (.d (dI al))] _
 have q:=hP.n1
 have r:=hP.l1
 k_head
 refine Rx (OD ?_)
 k_head
 refine⟨_,M.rows.map tI,rfl,rfl,NR.av,by rw[length_map];omega,λn g=>n<=M.rows.length/\g=((List.range n).map (Yo (ltr M) (nxM M) al)).map λk=>.d (dQ k),⟨Nat.zero_le _,rfl⟩,λi g a b=>?_,λg b=>?_⟩
 ·rw[length_map] at a
  obtain⟨_,rfl⟩:=b
  have u:(M.rows.map tI).getD i .none=tI M.rows[i]:=by rw[getD_eq_getElem?_getD,getElem?_map,getElem?_eq_getElem a];rfl
  show Gv K _ (.tuple [.int i,(M.rows.map tI).getD i .none]) [none,none,some (.d (dI al))] _
  rw[u]
  refine Tp ?_
  k_head
  refine⟨EH,Oz ?_⟩
  k_head
  refine Yg ?_
  k_head
  refine ZL rfl (VU (by omega) (by omega)) (Zs.flat rfl) ?_
  k_head
  refine Wi (α:=Int) ?_
  k_head
  refine⟨M.rows[i],PyData.int,λy=>.d (.int (tl al y.toNat)),.inr rfl,NR.av,by have:=(hP.row _ (getElem_mem a)).1;omega,λl m=>?_,_,Got.own (YR λ_=>rfl),?_⟩
  ·have p:=(hP.row _ (getElem_mem a)).2 _ (getElem_mem m)
   show Gv K _ _ [none,some (.d (dI al))] _
   k_head
   refine⟨Y7,?_⟩
   k_head
   exact ZL rfl (VU p.1 (by omega)) (Zs.flat rfl) rfl
  k_head
  refine Y6 (ds:=(M.rows[i].map λy=>tl al y.toNat).map .int) (by rw[TV.data,AV.data,Yq,map_map];rfl) (Kp.flat (Xn _)) ?_
  rw[EG hP a]
  k_head
  refine⟨[.d (.int (tl al i)),.d (tI ((List.range (ltr M)).map λl=>tl al (nxM M i l)))],.cons rfl (.cons rfl .nil),by show 2<=1000;decide,?_⟩
  refine⟨.d (dQ (Yo (ltr M) (nxM M) al i)),rfl,by omega,?_⟩
  rw[range_succ,map_append,map_append]
  rfl
 ·rw[length_map] at b
  obtain⟨_,rfl⟩:=b
  refine⟨_,Got.own (YR λk=>ED k),?_⟩
  k_head
  refine ZV (by walk_at "nrs") ⟨EF M al,⟨?_,?_⟩,rfl⟩ (Got.own (WK _)) ?_
  ·simp only[map_cons,map_nil,append_nil]
   rw[TV.data,AV.data,Yq]
  ·rw[length_map,length_range];omega
  exact Wl (by rw[EC])
theorem NW(h:al.length=n):Ut al=cnt n (tl al):=by
 have e:al=(List.range n).map (tl al):=by
  refine ext_getElem (by simp[h]) λi a b=>?_
  simp[tl,getD_eq_getElem?_getD,getElem?_eq_getElem a]
 unfold Ut
 have:=(NQ (tl al) n).2
 rw[<- e] at this
 exact this
def QL(cs:List AV):Prop:=∃ M:Mach,cs=[.d (dM M)]/\Parts 1 64 M
def EL(cs:List AV)(c:AV):Prop:=∃ (M:Mach) (R:List Int),cs=[.d (dM M)]/\LotsM M R/\c=oI R
theorem EM[DecidableEq α](xs:List α):(feI xs).length=xs.length:=length_map ..
theorem EN{xs:List Int}(hn:xs.length=n):∀ i j,i<n->j<n->(tl (feI xs) i=tl (feI xs) j↔tl xs i=tl xs j):=by
 subst hn
 have e:∀ i,i<xs.length->tl (feI xs) i=(xs.idxOf (tl xs i):Int):=λi a=>by
  unfold tl feI
  rw[getD_eq_getElem?_getD,getElem?_map,getD_eq_getElem?_getD,getElem?_eq_getElem a]
  rfl
 have m:∀ i,i<xs.length->tl xs i∈xs:=λi a=>YD a
 intro i j a b
 rw[e i a,e j b]
 refine⟨λh=>?_,λh=>by rw[h]⟩
 have h:xs.idxOf (tl xs i)=xs.idxOf (tl xs j):=by omega
 have f:=getElem_idxOf (idxOf_lt_length_of_mem (m i a))
 have c:=getElem_idxOf (idxOf_lt_length_of_mem (m j b))
 rw[<- f,<- c]
 congr 1
theorem EO(T:Txt K mg):Cal P w K mg base CX0 3 "first_alike" ["machine"] [] (spR K QL EL NP):=by
 have c_first_equals:Cal P w K mg base _ _ _ _ _ _:=EB T KEnc.int
 have c_parted:Cal P w K mg base _ _ _ _ _ _:=EK T
 refine Wm T.x_first_alike Uy (λcs ⟨M,e,_⟩=>by rw[e];rfl) (λf y A j s H E c=>?_) [] (by simp)
 refine⟨_,(Ze (Zp (i:=1) Uy.nd rfl (Or.inl rfl) (Zg (c_first_equals.mono (by decide)) c rfl pass0 (Za (Zj (Zk (K:=K) rfl c.units) (pv 0) Zc (λ_ _=>rfl)) Zb)))
   (Ze (Zp (i:=2) Uy.nd rfl (Or.inl rfl) Zc)
   (Ze (SB PassesOwn.never (Zw Vt (pv 2) (ZA OP rfl T.n_len PySem.boot_len (Za (Yk (ON (K:=K) rfl rfl) rfl T.n_set PyProof.Rows.boot_set (Za (pv 1) Zb)) Zb)) (nomark _))
    (Ze (Zp (i:=2) Uy.nd rfl (Or.inl rfl) (ZA OP rfl T.n_len PySem.boot_len (Za (Yk (ON (K:=K) rfl rfl) rfl T.n_set PyProof.Rows.boot_set (Za (pv 1) Zb)) Zb)))
    (Zh (Zp (i:=1) Uy.nd rfl (Or.inl rfl) (Zg (c_parted.mono (by decide)) c rfl pass0 (Za (Zj (Zk (K:=K) rfl c.units) (pv 0) Zc (λ_ _=>rfl)) (Za (pv 1) Zb)))))))
   (Zh (Zq (pv 1)))))),?_⟩
 rintro cs ⟨M,rfl,hP⟩
 show Sv K _ _ _ [some (.d (dM M)),none,none] _
 have n:=hP.n0
 have x:=hP.n1
 have v:=hP.s
 k_head
 refine ZV (by walk_at "nrs") ⟨M.signs,⟨rfl,by omega⟩,rfl⟩ (Got.own (WK _)) ?_
 have a:=EN (xs:=M.signs) v
 have g:(feI M.signs).length=M.rows.length:=by rw[EM];exact v
 generalize feI M.signs=b at a g
 k_head
 refine Re (λm u=>∃ (al:List Int) (k:Nat),u=[some (.d (dM M)),some (oI al),some (.d (.int k))]/\al.length=M.rows.length/\k<=M.rows.length/\(∀ R,Ref M.rows.length (ltr M) (nxM M) al k R->Ref M.rows.length (ltr M) (nxM M) b 0 R)/\m=M.rows.length-k) M.rows.length ⟨b,0,rfl,g,Nat.zero_le _,λR h=>h,rfl⟩ ?_
 rintro m u ⟨al,k,rfl,hal,hk,hR,rfl⟩
 have r:=QE M.rows.length (tl al)
 k_head
 refine OQ (ks:=al) (Xe al) (by omega) ?_
 k_head
 refine OR ?_
 rw[NW hal]
 k_head
 refine ite2 (λh=>?_) λh=>?_
 ·have p:k<cnt M.rows.length (tl al):=by have:=of_decide_eq_true h;omega
  k_head
  refine OQ (ks:=al) (Xe al) (by omega) ?_
  k_head
  refine OR ?_
  rw[NW hal]
  k_head
  refine ZV (by walk_at "nrs") ⟨M,al,⟨?_,hP,hal⟩,rfl⟩ (Got.own (WK _)) ?_
  ·show [tR M.rows,(oI al).data]=_
   rw[Xe]
  k_head
  exact⟨M.rows.length-cnt M.rows.length (tl al),by omega,_,_,rfl,NS,r,λR c=>hR R (.step p c),rfl⟩
 ·have q:cnt M.rows.length (tl al)<=k:=by
   have:¬ ((k:Int)<(cnt M.rows.length (tl al):Nat)):=λz=>h (decide_eq_true z)
   omega
  k_head
  exact⟨_,Wl rfl,M,al,rfl,⟨b,a,(hR al (.done q)).lots0 n (TN hP)⟩,rfl⟩
def NY(cs:List AV)(c:AV):Prop:=∃ (M:Mach) (R F:List Int),cs=[.d (dM M)]/\LotsM M R/\Rb M R F/\c=.d (dM (Zi M R F))
theorem QM(T:Txt K mg)(B:base.BuiltinsAt mg mainGlobals)(b:∀ p∈ts0,p∈Tabs.ts):Cal P w K mg base CX0 7 "least" ["machine"] [] (spR K QL NY NP):=by
 have c_reached_by:Cal P w K mg base _ _ _ _ _ _:=F9 T B b
 have c_first_alike:Cal P w K mg base _ _ _ _ _ _:=EO T
 refine Wm T.x_least Fc (λcs ⟨M,e,_⟩=>by rw[e];rfl) (λf j A a s H E h=>?_) [] (by simp)
 refine⟨_,(Zh (Zq (Zg (c_reached_by.mono (by decide)) h rfl pass0 (Za (pv 0) (Za (Zg (c_first_alike.mono (by decide)) h rfl pass0 (Za (pv 0) Zb)) Zb))))),?_⟩
 rintro cs ⟨M,rfl,hP⟩
 show Sv K _ _ _ [some (.d (dM M))] _
 o_law
 refine⟨[.d (dM M)],.cons (.d NR.av rfl) .nil,⟨M,rfl,hP⟩,λc ⟨M',R,e,hl,ec⟩=>?_,λ_ z=>z.elim⟩
 simp only[append_nil,List.cons.injEq,AV.d.injEq,and_true] at e
 have g:=VW e
 subst g ec
 refine⟨_,Got.own (WK _),?_⟩
 o_law
 refine⟨[.d (dM M),.d (dI R)],.cons (.d NR.av rfl) (.cons (.d NR.av (Xe _)) .nil),⟨M,R,rfl,hP,hl.sok⟩,λc ⟨M',st',F,e,h1,h2,h3,ec⟩=>?_,λ_ z=>z.elim⟩
 simp only[append_nil,List.cons.injEq,AV.d.injEq,and_true] at e
 have g:=VW e.1
 subst g
 have i:=Ec e.2
 subst i
 subst ec
 exact⟨_,Got.own (YC _),_,Zt rfl,M,R,F,rfl,hl,⟨hP,hl.sok,h1,h2,h3⟩,rfl⟩
variable{Q:TV->Prop}{X:Exc->Prop}
theorem TQ(a:Parts 1 64 M)(q:∀ R F,LotsM M R->Rb M R F->Q (.av (.d (dM (Zi M R F))))):ClR QL NY NP [] Q X [.av (.d (dM M))] :=
 ⟨[.d (dM M)],.cons (.d NR.av rfl) .nil,⟨M,rfl,a⟩,λc ⟨M',R,F,e,h1,h2,ec⟩=>by
  simp only[append_nil,List.cons.injEq,AV.d.injEq,and_true] at e
  have b:=VW e
  subst b ec
  exact⟨_,Got.own (YC _),q R F h1 h2⟩,λ_ z=>z.elim⟩
def NZ(ds:List PyData)(c:AV):Prop:=∃ b:Int,ds=[.int b]/\(2<=b/\b<=5)/\c=.d .none
theorem TR(T:Txt K mg):Cal P w K mg base CX0 1 "want_base" ["base"] [] (spV K NZ NX):=by
 refine val T.x_want_base GZ (λds c ⟨k,e,_⟩=>by rw[e];rfl) (λf g A a s H E h=>?_) [] (by simp)
 refine⟨_,(Zh (Z3 (PW.pt (WR (Zw Vt (pv 0) (VB T.g_LEAST_BASE rfl) (nomark _)) (Vo (Zw XN (pv 0) (VB T.g_GREATEST_BASE rfl) (nomark _)))))
    (Zh Vp)
    ZO)),?_⟩
 rintro ds c ⟨b,rfl,hb,rfl⟩
 show Sv K _ _ _ [some (.d (.int b))] _
 w_on
 refine Y2 (by omega) ?_
 w_on
 refine Y2 (by omega) ?_
 w_on
 rfl
theorem TU(hb:2<=b/\b<=5)(q:Q (.av (.d .none))):Cl NZ [] Q [.av (.d (.int b))]:=ZV (by walk_at "nrs") ⟨b,rfl,hb,rfl⟩ (Got.own rfl) q
def Ma(ds:List PyData)(c:AV):Prop:=∃ n b:Int,ds=[.int n,.int b]/\(2<=b/\b<=5)/\0<=n/\n.toNat<2 ^ 900/\c=oI (figs b n)
theorem Mb(T:Txt K mg):∀ dvs∈[[],[V.int 2]],Cal P w K mg base CX0 2 "figures_of" ["place", "base"] dvs (spV K Ma NX):=by
 have c_want_base:Cal P w K mg base _ _ _ _ _ _:=TR T
 refine val T.x_figures_of TC (λds c ⟨n,b,e,_⟩=>by rw[e];rfl) (λf v A g s H E p=>?_)
 refine⟨_,(Ze (Yh (Zg (c_want_base.mono (by decide)) p rfl pass0 (Za (pv 1) Zb)))
   (Ze (Zp (i:=2) TC.nd rfl (Or.inl rfl) (ZZ Zb))
   (Ze (Zp (i:=3) TC.nd rfl (Or.inl rfl) (pv 0))
   (Ze (SB PassesOwn.never (Zw XN (pv 3) Zc (nomark _))
    (Ze (Yh (Y4 (K:=K) rfl PySem.F.plainAttrs_list PySem.F.slot_list_append PySem.F.type_list_append Xl (pv 2) (Za (Zl ZM (pv 3) (pv 1)) Zb)))
    (Zh (Zp (i:=3) TC.nd rfl (Or.inl rfl) (Zl Z7 (pv 3) (pv 1))))))
   (Ze (Yh (K4 (K:=K) rfl PySem.F.plainAttrs_list PySem.F.slot_list_reverse PySem.F.type_list_reverse Kx (pv 2)))
   (Zh (Zq (pv 2)))))))),?_⟩
 rintro ds c ⟨n,b,rfl,hb,h0,h1,rfl⟩
 show Sv K _ _ _ [some (.d (.int n)),some (.d (.int b)),none,none] _
 w_on
 refine TU hb ?_
 w_on
 refine Re (λm j=>∃ (ds:List Int) (r:Int),j=[some (.d (.int n)),some (.d (.int b)),some (oI ds),some (.d (.int r))]/\Lig b n ds r/\m=r.toNat) n.toNat ⟨[],n,rfl,.start h0 h1,rfl⟩ ?_
 rintro m j ⟨ds,r,rfl,L,rfl⟩
 w_on
 refine ite2 (λh=>?_) λh=>?_
 ·have a:0<r:=of_decide_eq_true h
  obtain⟨x,u,q⟩:=L.step hb.1 hb.2 a
  w_on
  refine XV ?hz ?_
  case hz=>rw[length_map];omega
  w_on
  exact⟨(r / b).toNat,q,ds++[r%b],r / b,by rw[oI,map_append];rfl,x,rfl⟩
 ·have a:¬ 0<r:=λz=>h (decide_eq_true z)
  obtain⟨e,u⟩:=L.done a
  subst e
  w_on
  refine Wl ?_
  rw[oI,figs,List.map_reverse]
theorem Mc{n:Int}(hb:2<=b/\b<=5)(a:0<=n)(h1:n.toNat<2 ^ 900)(q:Q (.av (oI (figs b n)))):Cl Ma [] Q [.av (.d (.int n)),.av (.d (.int b))] :=
 ZV (by walk_at "nrs") ⟨n,b,rfl,hb,a,h1,rfl⟩ (Got.own (WK _)) q
def pad(L:Nat)(xs:List Int):List Int:=List.replicate (L-xs.length) 0++xs
theorem EQ{n:Int}(hb:2<=b/\b<=5)(a:0<=n)(h1:n.toNat<2 ^ 900):(figs b n).length<=900:=by
 unfold figs;rw[List.length_reverse];exact P2 (n:=n) hb.1 hb.2 900 n h1
theorem ER(k:Nat):(List.replicate k [PyData.int 0]).flatten=(List.replicate k (0:Int)).map PyData.int:=by
 induction k with
 | zero=>rfl
 | succ k a=>rw[replicate_succ,flatten_cons,a,replicate_succ];rfl
def ES(ds:List PyData)(c:AV):Prop:=∃ (xs:List Int) (L:Nat),ds=[dI xs,.int L]/\L<=1000/\xs.length<=1000/\c=oI (pad L xs)
theorem ET(T:Txt K mg):Cal P w K mg base CX0 1 "filled" ["figures", "length"] [] (spV K ES NX):=by
 refine val T.x_filled G0 (λds c ⟨ns,k,e,_⟩=>by rw[e];rfl) (λf b A a s H E g=>?_) [] (by simp)
 refine⟨_,(Zh (Zq (Zl (Z8 (K:=K) rfl) (Zl XA (ZZ (Za Zc Zb)) (Zl Ue (pv 1) (ZA (ZS (K:=K) rfl) rfl T.n_len PySem.boot_len (Za (pv 0) Zb)))) (pv 0)))),?_⟩
 rintro ds c ⟨xs,L,rfl,hL,hx,rfl⟩
 show Sv K _ _ _ [some (.d (dI xs)),some (.d (.int L))] _
 w_on
 refine Yj ?_
 w_on
 refine⟨[.d (.int 0)],.cons rfl .nil,by decide,?_⟩
 w_on
 refine Z9 rfl ?_
 w_on
 rw[length_map]
 have e:((L:Int)-(xs.length:Int)).toNat=L-xs.length:=by omega
 refine ID (ds:=[.int 0]) rfl ⟨by omega,by omega⟩ (by rw[e];show 1*_<=_;omega) ?_
 rw[e,ER,Ny]
 w_on
 refine Rk (ds:=(List.replicate (L-xs.length) (0:Int)).map .int) (es:=xs.map .int) (by rw[TV.data,AV.data,Yq]) rfl (Kp.flat (Xn _)) (Kp.flat (Xn _)) (by rw[length_map,length_map,List.length_replicate];omega) ?_
 refine Wl ?_
 rw[<- map_append,Ny]
 rfl
def EU(ds:List PyData)(c:AV):Prop:=∃ (n:Int) (m:Nat) (b:Int),ds=[.int n,.int m,.int b]/\(2<=b/\b<=5)/\0<=n/\n.toNat<2 ^ 900/\m<=1000/\c=.d (tI (pad m (figs b n)))
theorem Me(T:Txt K mg):∀ dvs∈[[],[V.int 2]],Cal P w K mg base CX0 3 "column_of" ["code", "many", "base"] dvs (spV K EU NX):=by
 have c_figures_of:Cal P w K mg base _ _ _ _ _ _:=Mb T [] (by simp)
 have c_filled:Cal P w K mg base _ _ _ _ _ _:=ET T
 refine val T.x_column_of G4 (λds c ⟨n,m,b,e,_⟩=>by rw[e];rfl) (λf h A a s H E g=>?_)
 refine⟨_,(Zh (Zq (Yk (Y3 (K:=K) rfl) rfl T.n_tuple PyProof.Rows.boot_tuple (Za (Zg (c_filled.mono (by decide)) g rfl pass0 (Za (Zg (c_figures_of.mono (by decide)) g rfl pass0 (Za (pv 0) (Za (pv 2) Zb))) (Za (pv 1) Zb))) Zb)))),?_⟩
 rintro ds c ⟨n,m,b,rfl,hb,h0,h1,hm,rfl⟩
 show Sv K _ _ _ [some (.d (.int n)),some (.d (.int m)),some (.d (.int b))] _
 w_on
 refine Mc hb h0 h1 ?_
 w_on
 refine ZV (by walk_at "nrs") ⟨figs b n,m,by simp only[map_cons,map_nil,TV.data];rw[Xe];rfl,hm,Nat.le_trans (EQ hb h0 h1) (by decide),rfl⟩ (Got.own (WK _)) ?_
 w_on
 refine Y6 (ds:=(pad m (figs b n)).map .int) (by rw[TV.data,Xe];rfl) (.inl rfl) ?_
 w_on
 exact Zt rfl
theorem WN{M:List α->Prop}(xs:List α)(b:M [])(h1:∀ ys d,M ys->M (ys++[d])):M xs:=by
 have:∀ ys:List α,M ys.reverse:=λys=>by
  induction ys with
  | nil=>exact b
  | cons d ys a=>rw[reverse_cons];exact h1 _ _ a
 have:=this xs.reverse
 rwa [List.reverse_reverse] at this
variable{d:Int}
theorem EV{q:Int}(hb:2<=b/\b<=5)(e:0<=q)(hd:0<=d/\d<b)(h:0<q*b+d):figs b (q*b+d)=figs b q++[d]:=by
 have c:(q*b+d)%b=d:=by rw[Int.add_comm,Int.add_mul_emod_self_right];exact Int.emod_eq_of_lt hd.1 hd.2
 have a:(q*b+d) / b=q:=by
  rw[Int.add_comm,Int.add_mul_ediv_right _ _ (by omega),Int.ediv_eq_zero_of_lt hd.1 hd.2];omega
 unfold figs
 rw[U5 hb.1 hb.2 h,c,a,reverse_cons]
theorem EW(hb:2<=b/\b<=5)(xs:List Int):(∀ x∈xs,0<=x/\x<b)->0<=num b xs/\num b xs+1<=5 ^ xs.length:=by
 refine WN (M:=λxs=>(∀ x∈xs,0<=x/\x<b)->0<=num b xs/\num b xs+1<=5 ^ xs.length) xs (λ_=>⟨Int.le_refl _,Int.le_refl _⟩) λa d c h=>?_
 obtain⟨e,m⟩:=c λx f=>h x (mem_append_left _ f)
 have n:=h d (mem_append_right _ (.head _))
 rw[VD,List.length_append,length_singleton,Int.pow_succ]
 have j:0<=num b a*b:=Int.mul_nonneg e (by omega)
 have i:(num b a+1)*b<=(num b a+1)*5:=Int.mul_le_mul_of_nonneg_left hb.2 (by omega)
 have g:(num b a+1)*b=num b a*b+b:=by rw[Int.add_mul,Int.one_mul]
 omega
theorem EX(hb:2<=b/\b<=5)(xs:List Int):(∀ x∈xs,0<=x/\x<b)->pad xs.length (figs b (num b xs))=xs:=by
 refine WN (M:=λxs=>(∀ x∈xs,0<=x/\x<b)->pad xs.length (figs b (num b xs))=xs) xs (λ_=>?_) λa d n h=>?_
 ·rw[show num b []=0 from rfl];unfold figs;rw[Wf (by omega)];rfl
 ·have i:∀ x∈a,0<=x/\x<b:=λx p=>h x (mem_append_left _ p)
  have e:=n i
  have r:=h d (mem_append_right _ (.head _))
  have f:=(EW hb a i).1
  rw[VD,List.length_append,length_singleton]
  by_cases q:0<num b a*b+d
  ·rw[EV hb f r q]
   unfold pad at e ⊢
   rw[List.length_append,length_singleton,Nat.add_sub_add_right,<- List.append_assoc,e]
  ·have s:0<=num b a*b:=Int.mul_nonneg f (by omega)
   have g:d=0:=by omega
   have c:num b a=0:=by
    rcases Int.lt_or_eq_of_le f with z|z
    ·have:0<num b a*b:=Int.mul_pos z (by omega)
     omega
    ·exact z.symm
   subst g
   rw[c] at e ⊢
   have m:figs b (0*b+0)=[]:=by unfold figs;rw[Wf (by omega)];rfl
   have j:figs b 0=[]:=by unfold figs;rw[Wf (by omega)];rfl
   rw[j] at e
   rw[m]
   unfold pad at e ⊢
   rw[append_nil,List.length_nil,Nat.sub_zero] at e ⊢
   rw[List.replicate_succ',e]
theorem EY{ns:List Int}{k:Nat}(h:k<ns.length):atI (ns.map PyData.int) (k:Int)=some (.int (ns.getD k 0)):=Vv (by rw[getElem?_map,getElem?_eq_getElem h,getD_eq_getElem?_getD,getElem?_eq_getElem h];rfl)
def Mf(ds:List PyData)(c:AV):Prop:=∃ (xs:List Int) (b:Int),(ds=[dI xs,.int b]\/ds=[tI xs,.int b])/\(2<=b/\b<=5)/\c=.d (.int (num b xs))
theorem EZ(T:Txt K mg):∀ dvs∈[[],[V.int 2]],Cal P w K mg base CX0 2 "number_of" ["figures", "base"] dvs (spV K Mf NX):=by
 have c_want_base:Cal P w K mg base _ _ _ _ _ _:=TR T
 refine val T.x_number_of TD (λds c ⟨n,b,e,_⟩=>by rcases e with e|e<;>rw[e]<;>rfl) (λf m A g s H E j=>?_)
 refine⟨_,(Ze (Yh (Zg (c_want_base.mono (by decide)) j rfl pass0 (Za (pv 1) Zb)))
   (Ze (Zp (i:=2) TD.nd rfl (Or.inl rfl) Zc)
   (Ze (YY PassesOwn.never rfl (Xo (K:=K) rfl (pv 0)) (ZI (i:=3) TD.nd rfl (Or.inl rfl))
    (Zh (Zp (i:=2) TD.nd rfl (Or.inl rfl) (Zl (Z8 (K:=K) rfl) (Zl XA (pv 2) (pv 1)) (pv 3)))))
   (Zh (Zq (pv 2)))))),?_⟩
 rintro ds c ⟨xs,b,e,hb,rfl⟩
 obtain⟨x,rfl,h⟩:∃ x,ds=[x,.int b]/\(x=.list (xs.map .int)\/x=.tuple (xs.map .int)):=by
  rcases e with e|e
  ·exact⟨_,e,.inl rfl⟩
  ·exact⟨_,e,.inr rfl⟩
 show Sv K _ _ _ [some (.d x),some (.d (.int b)),none,none] _
 w_on
 refine TU hb ?_
 w_on
 refine Oo (α:=Int) ?_
 w_on
 refine⟨xs,PyData.int,h,⟨_,rfl⟩,λi a=>∃ o,a=[some (.d x),some (.d (.int b)),some (.d (.int (num b (xs.take i)))),o],⟨none,rfl⟩,?_,?_⟩
 ·rintro i a hi ⟨o,rfl⟩
  w_on
  refine⟨some (.d (.int xs[i])),?_⟩
  rw[List.take_add_one,getElem?_eq_getElem hi]
  show _=[_,_,some (AV.d (.int (num b (xs.take i++[xs[i]])))),_]
  rw[VD]
 ·rintro a ⟨o,rfl⟩
  rw[List.take_length]
  w_on
  exact Zt rfl
abbrev Zr(b:Int)(ns:List OkS)(N:Mach):PyData:=.tuple [.int b,.tuple (ns.map dS),dM N]
theorem E1(T:Txt K mg):∀ dvs∈[[],[V.int 2]],Cal P w K mg base CX0 3 "code_of" ["column", "base"] dvs (spV K Mf NX):=by
 have c_number_of:Cal P w K mg base _ _ _ _ _ _:=EZ T [] (by simp)
 refine val T.x_code_of G3 (λds c ⟨n,b,e,_⟩=>by rcases e with e|e<;>rw[e]<;>rfl) (λf i A a s H E h=>?_)
 refine⟨_,(Zh (Zq (Zg (c_number_of.mono (by decide)) h rfl pass0 (Za (pv 0) (Za (pv 1) Zb))))),?_⟩
 rintro ds c ⟨xs,b,e,hb,rfl⟩
 obtain⟨x,rfl,g⟩:∃ x,ds=[x,.int b]/\(x=dI xs\/x=tI xs):=by
  rcases e with e|e
  ·exact⟨_,e,.inl rfl⟩
  ·exact⟨_,e,.inr rfl⟩
 show Sv K _ _ _ [some (.d x),some (.d (.int b))] _
 w_on
 refine ZV (by walk_at "nrs") ⟨xs,b,by rcases g with e|e<;>subst e;exact .inl rfl;exact .inr rfl,hb,rfl⟩ (Got.own rfl) ?_
 exact Zt rfl
def E2(ds:List PyData)(c:AV):Prop:=∃ (b:Int) (ns:List OkS),ds=[.int b,.tuple (ns.map dS)]/\(2<=b/\b<=5)/\ns.length<=8/\c=.d (.int (b ^ ns.length))
theorem TW(T:Txt K mg):Cal P w K mg base CX0 1 "letters_for" ["base", "names"] [] (spV K E2 NX):=by
 refine val T.x_letters_for TF (λds c ⟨_,_,e,_⟩=>by rw[e];rfl) (λf h A g s H E j=>?_) [] (by simp)
 refine⟨_,(Ze (Zp (i:=2) TF.nd rfl (Or.inl rfl) Zc)
   (Ze (YY PassesOwn.never rfl (Xo (K:=K) rfl (pv 1)) (ZI (i:=3) TF.nd rfl (Or.inl rfl))
    (Zh (Zp (i:=2) TF.nd rfl (Or.inl rfl) (Zl XA (pv 2) (pv 0)))))
   (Zh (Zq (pv 2))))),?_⟩
 rintro ds c ⟨b,ns,rfl,hb,hn,rfl⟩
 show Sv K _ _ _ [some (.d (.int b)),some (.d (.tuple (ns.map dS))),none,none] _
 w_on
 refine Oo (α:=OkS) ?_
 w_on
 refine⟨ns,dS,.inr rfl,⟨_,rfl⟩,λi a=>∃ o,a=[some (.d (.int b)),some (.d (.tuple (ns.map dS))),some (.d (.int (b ^ i))),o],⟨none,by rw[Int.pow_zero]⟩,?_,?_⟩
 ·rintro i a hi ⟨o,rfl⟩
  w_on
  exact⟨_,by rw[Int.pow_succ]⟩
 ·rintro a ⟨o,rfl⟩
  w_on
  exact Zt rfl
def rm(rows:List (List Int))(ls:List Int):Int:=ls.foldl (stp rows) 0
theorem Xg(rows:List (List Int))(a:List Int)(l:Int):rm rows (a++[l])=stp rows (rm rows a) l:=by unfold rm;rw[foldl_append];rfl
theorem Parts.rm{a b:Int}{M:Mach}(h:Parts a b M):∀ (n:Nat) (c:List Int),c.length=n->(∀ l∈c,0<=l/\l<((M.rows.getD 0 []).length:Int))->0<=rm M.rows c/\rm M.rows c<M.rows.length
 | 0,c,e,_=>by
  have:c=[]:=List.length_eq_zero_iff.mp e
  subst this
  have:=h.n0
  exact⟨Int.le_refl _,by show (0:Int)<_;omega⟩
 | n+1,c,e,hl=>by
  obtain⟨f,y,rfl⟩:∃ f y,c=f++[y]:=⟨c.dropLast,c.getLast (by intro z;rw[z] at e;cases e),(List.dropLast_concat_getLast _).symm⟩
  rw[List.length_append] at e
  have i:=h.rm n f (by simpa using e) λl g=>hl l (mem_append_left _ g)
  have j:=hl y (mem_append_right _ (.head _))
  rw[Xg]
  exact h.stp i.1 i.2 j.1 j.2
def Dgb(b:Int)(w:List Int):Prop:=∀ d∈w,0<=d/\d<b
variable{v:List Int}
theorem Dgb.snoc(h:Dgb b (v++[d])):Dgb b v/\0<=d/\d<b:=⟨λe a=>h e (mem_append_left _ a),h d (mem_append_right _ (.head _))⟩
theorem Dgb.add(h:Dgb b v)(hd:0<=d/\d<b):Dgb b (v++[d]):=λe a=>by
 rcases mem_append.mp a with a|a
 ·exact h e a
 ·rw[mem_singleton.mp a];exact hd
abbrev bs(N:Mach):Int:=((ltr N:Nat):Int)
def sgw(M:Mach)(w:List Int):Int:=M.signs.getD (rm M.rows w).toNat 0
theorem E3{G:List Int}(b:LotsM M R)(c:Rb M R G)(w:List Int):Dgb (bs M) w->Bi M R G (rm M.rows w,rm (Zi M R G).rows w):=by
 refine WN (M:=λw=>Dgb (bs M) w->Bi M R G (rm M.rows w,rm (Zi M R G).rows w)) w (λ_=>b.bi0 c) λv d e h=>?_
 obtain⟨f,a⟩:=h.snoc
 have:=b.bin c (e f) (l:=d.toNat) (show d.toNat<ltr M by have i:=a.1;have g:d<((ltr M:Nat):Int):=a.2;omega)
 rw[Xg,Xg]
 rw[Int.toNat_of_nonneg a.1] at this
 exact this
theorem VZ{G:List Int}(a:LotsM M R)(b:Rb M R G){w:List Int}(hw:Dgb (bs M) w):sgw (Zi M R G) w=sgw M w:=(a.bis b (E3 a b w hw)).symm
def IsL(N:Mach):Prop:=∃ A R G,LotsM A R/\Rb A R G/\N=Zi A R G
theorem E4{f:Mach}(h:IsL N)(h':IsL f)(hl:ltr N=ltr f)(j:∀ w,Dgb (bs N) w->sgw N w=sgw f w):N=f:=by
 obtain⟨A,R,G,g,c,rfl⟩:=h
 obtain⟨i,q,r,b,a,rfl⟩:=h'
 rw[c.lt,a.lt] at hl
 have n:bs (Zi A R G)=bs A:=by show ((ltr _:Nat):Int)=_;rw[c.lt]
 have e:bs A=bs i:=by show ((ltr _:Nat):Int)=_;rw[hl]
 refine Ew g c b a hl (λp=>∃ w,Dgb (bs A) w/\p=(rm A.rows w,rm i.rows w)) ⟨[],(λ_ z=>by cases z),rfl⟩ ?_
 rintro p ⟨w,hw,rfl⟩
 refine⟨⟨c.p.rm _ w rfl hw,a.p.rm _ w rfl (by rw[e] at hw;exact hw)⟩,?_,λl m=>⟨w++[(l:Int)],hw.add ⟨by omega,by show (l:Int)<(ltr A:Nat);omega⟩,by rw[Xg,Xg]⟩⟩
 have:=j w (by rw[n];exact hw)
 rw[VZ g c hw,VZ b a (by rw[<- e];exact hw)] at this
 exact this
structure MetT{α:Type}[DecidableEq α](θ:Th α)(F:List α):Prop where
 bf:Bfs θ.g θ.n [θ.start] 0 F
 nd:F.Nodup
 u:∀ x∈F,x∈θ.U
def ZX(θ:Th α)(w:List Int):α:=w.foldl (λx d=>θ.g x d.toNat) θ.start
theorem Vj(θ:Th α)(w:List Int)(d:Int):ZX θ (w++[d])=θ.g (ZX θ w) d.toNat:=by unfold ZX;rw[foldl_append];rfl
variable{θ:Th α}
theorem E5[DecidableEq α]{sg:α->Int}(hX:MetT θ F)(w:List Int):Dgb (θ.n:Nat) w->ZX θ w∈F/\rm (Yv θ sg F).rows w=(F.idxOf (ZX θ w):Int):=by
 have all:∀ x∈F,∀ l,l<θ.n->θ.g x l∈F:=hX.bf.all λj p z=>by omega
 obtain⟨r,e⟩:=hX.bf.pre
 refine WN (M:=λw=>Dgb (θ.n:Nat) w->ZX θ w∈F/\rm (Yv θ sg F).rows w=(F.idxOf (ZX θ w):Int)) w (λ_=>⟨by rw[e];exact .head _,?_⟩) λv d f h=>?_
 ·show (0:Int)=(F.idxOf θ.start:Int)
  rw[e]
  simp
 ·obtain⟨i,q⟩:=h.snoc
  obtain⟨b,g⟩:=f i
  have c:d.toNat<θ.n:=by omega
  rw[Vj,Xg,g]
  refine⟨all _ b _ c,?_⟩
  have m:=idxOf_lt_length_of_mem b
  unfold stp
  rw[Int.toNat_natCast]
  have n:(Yv θ sg F).rows.getD (F.idxOf (ZX θ v)) []=Zy θ.g F (ZX θ v) θ.n:=by
   show (F.map λa=>Zy θ.g F a θ.n).getD _ []=_
   rw[getD_eq_getElem?_getD,getElem?_map,getElem?_eq_getElem m,getElem_idxOf]
   rfl
  rw[n,getD_eq_getElem?_getD]
  unfold Zy
  rw[getElem?_map,getElem?_range c]
  rfl
theorem E6[DecidableEq α]{sg:α->Int}(hX:MetT θ F){w:List Int}(hw:Dgb (θ.n:Nat) w):sgw (Yv θ sg F) w=sg (ZX θ w):=by
 obtain⟨c,b⟩:=E5 (sg:=sg) hX w hw
 have a:=idxOf_lt_length_of_mem c
 unfold sgw
 rw[b,Int.toNat_natCast]
 show (F.map sg).getD _ 0=_
 rw[getD_eq_getElem?_getD,getElem?_map,getElem?_eq_getElem a,getElem_idxOf]
 rfl
theorem E7[DecidableEq α]{sg:α->Int}(hX:MetT θ F):ltr (Yv θ sg F)=θ.n:=by
 obtain⟨r,e⟩:=hX.bf.pre
 have b:0<F.length:=by rw[e];simp
 show ((F.map λa=>Zy θ.g F a θ.n).getD 0 []).length=_
 rw[getD_eq_getElem?_getD,getElem?_map,getElem?_eq_getElem b]
 simp[Zy]
theorem Mg:∀ {a b:List Nat},PySem.Spec.ltCps a b=false->PySem.Spec.ltCps b a=false->a=b
 | [],[],_,_=>rfl
 | [],_::_,h,_=>by simp[PySem.Spec.ltCps] at h
 | _::_,[],_,h=>by simp[PySem.Spec.ltCps] at h
 | x::a,y::b,h,g=>by
  simp only[PySem.Spec.ltCps] at h g
  have e:x=y:=by
   rcases Nat.lt_trichotomy x y with z|z|z
   ·simp[z] at h
   ·exact z
   ·simp[z] at g
  subst e
  simp at h g
  rw[Mg h g]
theorem Mh:∀ {a b c:List Nat},PySem.Spec.ltCps b a=false->PySem.Spec.ltCps c b=false->PySem.Spec.ltCps c a=false
 | _,_,[],h,g=>by
  rename_i a b
  cases b with
  | nil =>
   cases a with
   | nil=>rfl
   | cons _ _=>simp[PySem.Spec.ltCps] at h
  | cons _ _=>simp[PySem.Spec.ltCps] at g
 | [],_,_::_,_,_=>by simp[PySem.Spec.ltCps]
 | x::a,[],z::c,h,g=>by simp[PySem.Spec.ltCps] at h
 | x::a,y::b,z::c,h,g=>by
  simp only[PySem.Spec.ltCps] at h g ⊢
  rcases Nat.lt_trichotomy x y with q|q|q
  ·rcases Nat.lt_trichotomy y z with r|r|r
   ·have:¬ z<x:=by omega
    have:¬ z=x:=by omega
    simp[*]
   ·have:¬ z<x:=by omega
    have:¬ z=x:=by omega
    simp[*]
   ·simp[r] at g
  ·subst q
   rcases Nat.lt_trichotomy x z with r|r|r
   ·have:¬ z<x:=by omega
    have:¬ z=x:=by omega
    simp[*]
   ·subst r
    simp at h g ⊢
    exact Mh h g
   ·simp[r] at g
  ·simp[q] at h
def leS(a b:Str):Prop:=PySem.Spec.ltCps b.cps.toList a.cps.toList=false
theorem E8{a b:Str}(h:leS a b)(g:leS b a):a=b:=by
 have:=Mg h g
 cases a;cases b
 exact congrArg Str.mk (Array.ext' this.symm)
theorem Mi:∀ {zs:List Str},PyProof.Rows.sortedS zs=true->zs.Pairwise leS
 | [],_=>.nil
 | z::zs,h=>by
  have a:∀ (zs:List Str) (p:Str),PyProof.Rows.risingS p zs=true->(p::zs).Pairwise leS:=by
   intro zs
   induction zs with
   | nil=>intro p _;simp
   | cons x zs f =>
    intro p h
    have h:(!PySem.Spec.ltCps x.cps.toList p.cps.toList && PyProof.Rows.risingS x zs)=true:=h
    rw[Bool.and_eq_true] at h
    have b:leS p x:=by show PySem.Spec.ltCps _ _=false;simpa using h.1
    have c:=f x h.2
    refine List.pairwise_cons.mpr ⟨λy g=>?_,c⟩
    rcases mem_cons.mp g with e|e
    ·rw[e];exact b
    ·exact Mh b ((List.pairwise_cons.mp c).1 y e)
  exact a zs z h
theorem Mj{ns:List OkS}:∀ {ys:List Str},(∀ y∈ys,y∈ns.map Subtype.val)->∃ zs:List OkS,zs.map Subtype.val=ys/\∀ z∈zs,z∈ns
 | [],_=>⟨[],rfl,λ_ z=>nomatch z⟩
 | y::ys,h=>by
  obtain⟨a,c,e⟩:=mem_map.mp (h y (.head _))
  obtain⟨zs,g,f⟩:=Mj λy b=>h y (.tail _ b)
  exact⟨a::zs,by rw[map_cons,g,e],λz hz=>(mem_cons.mp hz).elim (λq=>q▸c) (f z)⟩
structure OnceN(xs ns:List OkS):Prop where
 s:PyProof.Rows.sortedS (ns.map Subtype.val)=true
 d:ns.Nodup
 m:∀ c,c∈ns↔c∈xs
variable{ys:List OkS}
theorem E9{xs:List OkS}(h:xs.map Subtype.val=ys.map Subtype.val):xs=ys:=(List.map_inj_right λx y e=>Subtype.ext e).mp h
variable{ns ms:List OkS}
theorem OnceN.one{xs:List OkS}(h:OnceN xs ns)(g:OnceN xs ms):ns=ms :=
 E9 (List.Perm.eq_of_pairwise (le:=leS) (λa b _ _ f e=>E8 f e) (Mi h.s) (Mi g.s) (((List.perm_ext_iff_of_nodup h.d g.d).mpr λc=>(h.m c).trans (g.m c).symm).map _))
theorem OnceN.of{xs:List OkS}{ys:List Str}(d:ys.Nodup)(m:∀ y,y∈ys↔y∈xs.map Subtype.val)(s:PyProof.Rows.sortedS ys=true):∃ ns,ns.map Subtype.val=ys/\OnceN xs ns:=by
 obtain⟨a,rfl,h⟩:=Mj (ns:=xs) λy b=>(m y).mp b
 refine⟨a,rfl,s,(pairwise_map.mp d).imp λh e=>h (congrArg _ e),λc=>⟨h c,λf=>?_⟩⟩
 obtain⟨z,hz,e⟩:=mem_map.mp ((m c.1).mpr (mem_map.mpr ⟨c,f,rfl⟩))
 rw[<- Subtype.ext e]
 exact hz
theorem TX(xs:List OkS):xs.map dS=(xs.map Subtype.val).map .str:=by rw[map_map];rfl
theorem X9(xs:List OkS):noLsts (xs.map dS)=true:=XR (λ_=>rfl) xs
theorem Mk{xs:List OkS}(h:OnceN xs ns):ns.length<=xs.length:=XE h.d λc a=>(h.m c).mp a
def idxD[DecidableEq α](xs:List α)(c:α):Nat:=xs.idxOf c
theorem QN[DecidableEq α]{c:α}(h:c∈xs):idxD xs c<xs.length:=idxOf_lt_length_of_mem h
theorem pw0(b:Int):b ^ 0=1:=Int.pow_zero b
theorem pw1(b:Int):b ^ 1=b:=by rw[Int.pow_succ,Int.pow_zero,Int.one_mul]
theorem Xh{b:Int}(hb:2<=b/\b<=5):∀ n:Nat,1<=b ^ n
 | 0=>by rw[pw0];exact Int.le_refl _
 | n+1=>by
  rw[Int.pow_succ]
  have h:=Xh hb n
  have:b ^ n*1<=b ^ n*b:=Int.mul_le_mul_of_nonneg_left (by omega) (by omega)
  omega
theorem Ml(hb:2<=b/\b<=5)(xs:List Int):(∀ x∈xs,0<=x/\x<b)->0<=num b xs/\num b xs<b ^ xs.length:=by
 refine WN (M:=λxs=>(∀ x∈xs,0<=x/\x<b)->0<=num b xs/\num b xs<b ^ xs.length) xs (λ_=>⟨Int.le_refl _,by show (0:Int)<b ^ 0;rw[pw0];decide⟩) λc d e h=>?_
 have a:=e λx f=>h x (mem_append_left _ f)
 have j:=h d (mem_append_right _ (.head _))
 rw[VD,List.length_append,length_singleton,Int.pow_succ]
 generalize num b c=n at a
 generalize b ^ c.length=q at a
 have g:(n+1)*b<=q*b:=Int.mul_le_mul_of_nonneg_right (by omega) (by omega)
 have i:=Int.mul_nonneg a.1 (show 0<=b by omega)
 rw[Int.add_mul,Int.one_mul] at g
 exact⟨by omega,by omega⟩
theorem TY{b:Int}(hb:2<=b/\b<=5):∀ (n:Nat) (k:Int),0<=k/\k<b ^ n->∃ col:List Int,col.length=n/\(∀ x∈col,0<=x/\x<b)/\num b col=k
 | 0,k,h=>by
  rw[pw0] at h
  exact⟨[],rfl,(λx a=>by cases a),by show (0:Int)=k;omega⟩
 | n+1,k,h=>by
  rw[Int.pow_succ] at h
  obtain⟨col,f,e,c⟩:=TY hb n (k / b) ⟨Int.ediv_nonneg h.1 (by omega),Int.ediv_lt_of_lt_mul (by omega) h.2⟩
  refine⟨col++[k%b],by rw[List.length_append,f];rfl,λx a=>?_,?_⟩
  ·rcases mem_append.mp a with z|z
   ·exact e x z
   ·rw[mem_singleton.mp z];exact⟨Int.emod_nonneg _ (by omega),Int.emod_lt_of_pos _ (by omega)⟩
  ·rw[VD,c,Int.mul_comm]
   exact Int.mul_ediv_add_emod k b
def YS(b:Int)(m:Nat)(k:Int):List Int:=pad m (figs b k)
variable{col:List Int}
theorem TZ(hb:2<=b/\b<=5)(hn:col.length=n)(h:∀ x∈col,0<=x/\x<b):YS b n (num b col)=col:=by subst hn;exact EX hb col h
theorem T3(hb:2<=b/\b<=5)(e:0<=k/\k<b ^ n):(YS b n k).length=n/\(∀ x∈YS b n k,0<=x/\x<b):=by
 obtain⟨f,c,a,rfl⟩:=TY hb n k e
 rw[TZ hb c a]
 exact⟨c,a⟩
def phi(b:Int)(ns part:List OkS)(k:Int):Int:=num b (part.map λc=>(YS b ns.length k).getD (idxD ns c) 0)
structure CwOk(b:Int)(ns part:List OkS):Prop where
 hb:2<=b/\b<=5
 l:ns.length<=4
 w:b ^ ns.length<=64
 pl:part.length<=4
 m:∀ c∈part,c∈ns
def wtn(b:Int)(ns part:List OkS):List Int:=(List.range (b ^ ns.length).toNat).map λ(k:Nat)=>phi b ns part k
def S_cw(ds:List PyData)(r:AV):Prop:=∃ (b:Int) (ns part:List OkS),ds=[.int b,.tuple (ns.map dS),.tuple (part.map dS)]/\CwOk b ns part/\r=oI (wtn b ns part)
theorem Da(T:Txt K mg):Cal P w K mg base CX0 4 "codes_within" ["base", "names", "part"] [] (spV K S_cw NX):=by
 have c_letters_for:Cal P w K mg base _ _ _ _ _ _:=TW T
 have c_column_of:Cal P w K mg base _ _ _ _ _ _:=Me T [] (by simp)
 have c_code_of:Cal P w K mg base _ _ _ _ _ _:=E1 T [] (by simp)
 refine val T.x_codes_within Uz (λds c ⟨_,_,_,e,_⟩=>by rw[e];rfl) (λf F A m s H E a=>?_) [] (by simp)
 refine⟨_,(Ze (KK (i:=3) Uz.nd rfl rfl (N:=["name", "names"]) (cap:=[none,some 1]) rfl rfl rfl (by kernel_rfl) (Xo (K:=K) rfl (pv 2)) (λ_ _ _ _=>(ZI (i:=0) (show (["name", "names"]:List Str).Nodup from by decide +kernel) rfl (Or.inl rfl))) (λ_ _ _ _=>YO) (λ_ _ _ _=>(GL PySem.F.slot_tuple_index PySem.F.type_tuple_index (GK (K:=K) rfl a.units) (pv 1) (Za (pv 0) Zb))))
   (Ze (Zp (i:=4) Uz.nd rfl (Or.inl rfl) (ZZ Zb))
   (Ze (YY PassesOwn.never rfl (XM rfl T.n_range (Za (Zg (c_letters_for.mono (by decide)) a rfl pass0 (Za (pv 0) (Za (pv 1) Zb))) Zb)) (ZI (i:=5) Uz.nd rfl (Or.inl rfl))
    (Ze (Zp (i:=6) Uz.nd rfl (Or.inr rfl) (Zg (c_column_of.mono (by decide)) a rfl pass0 (Za (pv 5) (Za (ZA (ZS (K:=K) rfl) rfl T.n_len PySem.boot_len (Za (pv 1) Zb)) (Za (pv 0) Zb)))))
    (Zh (Yh (Y4 (K:=K) rfl PySem.F.plainAttrs_list PySem.F.slot_list_append PySem.F.type_list_append Xl (pv 4) (Za (Zg (c_code_of.mono (by decide)) a rfl pass0 (Za (Y1 (N:=["spot", "column"]) (cap:=[none,some 6]) rfl rfl rfl (by kernel_rfl) (Xo (K:=K) rfl (pv 3)) (λ_ _ _ _=>(ZI (i:=0) (show (["spot", "column"]:List Str).Nodup from by decide +kernel) rfl (Or.inl rfl))) (λ_ _ _ _=>YO) (λ_ _ _ _=>(Zj (Zk (K:=K) rfl a.units) (pv 1) (pv 0) (λ_ _=>rfl)))) (Za (pv 0) Zb))) Zb))))))
   (Zh (Zq (pv 4)))))),?_⟩
 rintro ds r ⟨b,ns,part,rfl,hC,rfl⟩
 show Sv K _ _ _ [some (.d (.int b)),some (.d (.tuple (ns.map dS))),some (.d (.tuple (part.map dS))),none,none,none,none] _
 have I:=hC.l
 have B:=hC.pl
 have g:=hC.hb
 have G:1<=b ^ ns.length/\b ^ ns.length<=64:=⟨Xh g _,hC.w⟩
 o_law
 refine Wi (α:=OkS) ?_
 o_law
 refine⟨part,dS,λx=>.d (.int (idxD ns x:Nat)),.inr rfl,NR.av,by omega,λi y=>?_,_,Got.own (YR λ_=>rfl),?_⟩
 ·have q:=hC.m _ (getElem_mem y)
  show Gv K _ _ [none,some (.d (.tuple (ns.map dS)))] _
  o_law
  refine⟨Y7,?_⟩
  refine GM Enc.str ?_
  o_law
  refine⟨ns,rfl,NR.av,by omega,?_⟩
  o_law
  exact⟨part[i],rfl,NR.av,q,rfl⟩
 refine VN (x:=dI (part.map λc=>(idxD ns c:Int))) (by rw[AV.data,Yq,dI,map_map];rfl) ?_
 o_law
 refine Wh ?_
 o_law
 refine ZV (by walk_at "nrs") ⟨b,ns,rfl,g,by omega,rfl⟩ (Got.own rfl) ?_
 o_law
 refine⟨b ^ ns.length,rfl,⟨by omega,by omega⟩,λi h=>∃ (p n:Option AV),h=[some (.d (.int b)),some (.d (.tuple (ns.map dS))),some (.d (.tuple (part.map dS))),some (.d (dI (part.map λc=>(idxD ns c:Int)))),some (oI ((List.range i).map λ(k:Nat)=>phi b ns part k)),p,n],⟨none,none,rfl⟩,?_,?_⟩
 ·rintro i h y ⟨p,n,rfl⟩
  have v:0<=(i:Int)/\(i:Int)<b ^ ns.length:=by omega
  have u:=(T3 g v).1
  o_law
  refine W3 rfl ?_
  rw[length_map]
  o_law
  refine ZV (by walk_at "nrs") ⟨(i:Int),ns.length,b,rfl,g,v.1,Nat.lt_of_lt_of_le (show (i:Int).toNat<2 ^ 7 by omega) (Nat.pow_le_pow_right (by decide) (by decide)),by omega,rfl⟩ (Got.own (UC _)) ?_
  rw[show pad ns.length (figs b (i:Int))=YS b ns.length i from rfl]
  o_law
  refine Wi (α:=OkS) ?_
  o_law
  refine⟨part,λc=>PyData.int (idxD ns c:Int),λc=>.d (.int ((YS b ns.length i).getD (idxD ns c) 0)),.inl (by rw[TV.data,dI,map_map];rfl),NR.av,by omega,λj C=>?_,_,Got.own (YR λ_=>rfl),?_⟩
  ·have q:=QN (hC.m _ (getElem_mem C))
   show Gv K _ _ [none,some (.d (tI (YS b ns.length i)))] _
   o_law
   refine⟨Y7,?_⟩
   w_on
   exact YA rfl (EY (by rw[u];exact q)) Zs.d rfl
  o_law
  refine ZV (by walk_at "nrs") ⟨part.map λc=>(YS b ns.length i).getD (idxD ns c) 0,b,.inl ?_,g,rfl⟩ (Got.own rfl) ?_
  ·simp only[map_cons,map_nil,append_nil]
   rw[TV.data,AV.data,Yq,dI,map_map]
   rfl
  refine XV ?hz ?_
  case hz=>rw[length_map,length_map,length_range];omega
  refine⟨some (.d (.int (i:Int))),some (.d (tI (YS b ns.length i))),?_⟩
  rw[range_succ,map_append,oI,map_append]
  rfl
 ·rintro h ⟨p,n,rfl⟩
  o_law
  exact Wl rfl
variable{part:List OkS}
theorem Mm(h:CwOk b ns part)(q:Q (.av (oI (wtn b ns part)))):Cl S_cw [] Q [.av (.d (.int b)),.av (.d (.tuple (ns.map dS))),.av (.d (.tuple (part.map dS)))] :=
 ZV (by walk_at "nrs") ⟨b,ns,part,rfl,h,rfl⟩ (Got.own (WK _)) q
theorem V0(h:CwOk b ns part)(e:0<=k/\k<b ^ ns.length):0<=phi b ns part k/\phi b ns part k<b ^ part.length:=by
 obtain⟨i,g⟩:=T3 h.hb e
 have:=Ml h.hb (part.map λc=>(YS b ns.length k).getD (idxD ns c) 0) λx a=>by
  obtain⟨c,f,rfl⟩:=mem_map.mp a
  exact g _ (YD (by rw[i];exact QN (h.m c f)))
 rw[length_map] at this
 exact this
def Mo(cs:List AV):Prop:=∃ xs:List OkS,cs=[.d (.tuple (xs.map dS))]/\xs.length<=60
def Mp(cs:List AV)(c:AV):Prop:=∃ xs ns:List OkS,cs=[.d (.tuple (xs.map dS))]/\OnceN xs ns/\c=.d (.tuple (ns.map dS))
theorem Db{xs:List OkS}(h:PyData.tuple (xs.map dS)=.tuple (ys.map dS)):xs=ys:=(List.map_inj_right λx y e=>Subtype.ext (PyData.str.inj e)).mp (PyData.tuple.inj h)
theorem Dc(T:Txt K mg):Cal P w K mg base CX0 1 "rising" ["names"] [] (spR K Mo Mp NP):=by
 refine Wm T.x_rising Nt (λcs ⟨n,e,_⟩=>by rw[e];rfl) (λf m A a s H E r=>?_) [] (by simp)
 refine⟨_,(Zh (Zq (Yk (Y3 (K:=K) rfl) rfl T.n_tuple PyProof.Rows.boot_tuple (Za (ZA (Ni (P:=P) (w:=w) rfl rfl rfl) rfl T.n_sorted PyProof.Rows.boot_sorted (Za (Yk (GO (P:=P) (w:=w) rfl rfl rfl) rfl T.n_set PyProof.Rows.boot_set (Za (pv 0) Zb)) Zb)) Zb)))),?_⟩
 rintro cs ⟨xs,rfl,hl⟩
 show Sv K _ _ _ [some (.d (.tuple (xs.map dS)))] _
 w_on
 refine GP (P:=P) (w:=w) (ns:=xs.map Subtype.val) (by rw[TV.data,AV.data,TX]) (by rw[length_map];omega) λp j i h=>?_
 rw[length_map] at h
 w_on
 refine Nj (by omega) λq b c=>?_
 obtain⟨ns,rfl,g⟩:=OnceN.of (xs:=xs) (b.nodup_iff.mpr j) (λy=>b.mem_iff.trans (i y)) c
 w_on
 refine Y6 (ds:=(ns.map Subtype.val).map .str) (by rw[TV.data,AV.data,Yq]) (.inr (XR (λ_=>rfl) _)) ?_
 exact⟨_,Zt (by rw[<- TX]),xs,ns,rfl,g,rfl⟩
theorem Dd{xs:List OkS}(hl:xs.length<=60)(q:∀ ns,OnceN xs ns->Q (.av (.d (.tuple (ns.map dS))))):ClR Mo Mp NP [] Q X [.av (.d (.tuple (xs.map dS)))] :=
 ⟨[.d (.tuple (xs.map dS))],.cons (.d NR.av rfl) .nil,⟨xs,rfl,hl⟩,λc ⟨xs',ns,e,hO,ec⟩=>by
  simp only[append_nil,List.cons.injEq,AV.d.injEq,and_true] at e
  have a:=Db e
  subst a ec
  exact⟨_,Got.own (by show ZE (.tuple (ns.map dS))=true;simp only[ZE];exact X9 ns),q ns hO⟩,λ_ z=>z.elim⟩
def S_ww(ds:List PyData)(c:AV):Prop:=∃ (b:Int) (ns:List OkS),ds=[.int b,.tuple (ns.map dS)]/\(2<=b/\b<=5)/\ns.length<=4/\b ^ ns.length<=64/\c=.d .none
theorem Mq(T:Txt K mg):Cal P w K mg base CX0 2 "want_width" ["base", "names"] [] (spV K S_ww NX):=by
 have c_letters_for:Cal P w K mg base _ _ _ _ _ _:=TW T
 refine val T.x_want_width Ff (λds c ⟨_,_,e,_⟩=>by rw[e];rfl) (λf h A a s H E g=>?_) [] (by simp)
 refine⟨_,(Zh (Z3 (PW.pt (WR (Zw XN (ZA (ZS (K:=K) rfl) rfl T.n_len PySem.boot_len (Za (pv 1) Zb)) (VB T.g_MOST_NAMES rfl) (nomark _)) (Vo (Zw XN (Zg (c_letters_for.mono (by decide)) g rfl pass0 (Za (pv 0) (Za (pv 1) Zb))) (VB T.g_MOST_LETTERS rfl) (nomark _)))))
    (Zh Vp)
    ZO)),?_⟩
 rintro ds c ⟨b,ns,rfl,hb,hl,hw,rfl⟩
 show Sv K _ _ _ [some (.d (.int b)),some (.d (.tuple (ns.map dS)))] _
 w_on
 refine W3 rfl ?_
 rw[length_map]
 w_on
 refine Y2 (by omega) ?_
 w_on
 refine ZV (by walk_at "nrs") ⟨b,ns,rfl,hb,by omega,rfl⟩ (Got.own rfl) ?_
 w_on
 refine Y2 (by omega) ?_
 w_on
 rfl
structure LmOk{α:Type}(θ:Th α)(sg:α->Int):Prop where
 n0:1<=θ.n
 n1:θ.n<=64
 u:θ.U.length<=100
 s:∀ x∈θ.U,0<=sg x/\sg x<=9
theorem De[DecidableEq α]{sg:α->Int}(hX:MetT θ F)(h:LmOk θ sg):Parts 1 64 (Yv θ sg F):=by
 have all:∀ x∈F,∀ l,l<θ.n->θ.g x l∈F:=hX.bf.all λj v z=>by omega
 obtain⟨r,e⟩:=hX.bf.pre
 have u:=h.n0
 have s:=h.n1
 have m:0<F.length:=by rw[e];simp
 have c:∀ a,(Zy θ.g F a θ.n).length=θ.n:=λa=>by simp[Zy]
 have f:((Yv θ sg F).rows.getD 0 []).length=θ.n:=by
  show ((F.map λa=>Zy θ.g F a θ.n).getD 0 []).length=_
  rw[getD_eq_getElem?_getD,getElem?_map,getElem?_eq_getElem m]
  exact c _
 have p:=Nat.le_trans (XE hX.nd hX.u) h.u
 have b:(Yv θ sg F).rows.length=F.length:=length_map ..
 refine⟨by rw[b];exact m,by rw[b];omega,by rw[b];exact length_map ..,λx g=>?_,by rw[f];omega,by rw[f];omega,λx g=>?_⟩
 ·obtain⟨a,i,rfl⟩:=mem_map.mp (show x∈F.map λa=>Zy θ.g F a θ.n from g)
  refine⟨by rw[f];exact c a,λy n=>?_⟩
  obtain⟨l,q,rfl⟩:=mem_map.mp n
  rw[b]
  have:=idxOf_lt_length_of_mem (all a i l (mem_range.mp q))
  exact⟨by omega,by omega⟩
 ·obtain⟨a,i,rfl⟩:=mem_map.mp (show x∈F.map sg from g)
  exact h.s a (hX.u a i)
def Df(P:Program)(w:World)(K:W.Frag)(mg:Str->Option Value)(base:Heap)(e:α->PyData)(θ:Th α×(α->Int))(cs:List AV):Prop:=ND P w K mg base e θ cs/\LmOk θ.1 θ.2
def Ys[DecidableEq α](θ:Th α)(sg:α->Int)(N:Mach):Prop:=∃ F R G,MetT θ F/\LotsM (Yv θ sg F) R/\Rb (Yv θ sg F) R G/\N=Zi (Yv θ sg F) R G
def Dg[DecidableEq α](θ:Th α×(α->Int))(_:List AV)(c:AV):Prop:=∃ N,Ys θ.1 θ.2 N/\c=.d (dM N)
theorem QO(T:Txt K mg)(B:base.BuiltinsAt mg mainGlobals)(i:∀ p∈ts0,p∈Tabs.ts)[DecidableEq α](v:KEnc e)(m:∀ a b,e a=e b->a=b)(n:∀ x,ZE (e x)=true) :
  Cal P w K mg base CX0 8 "least_met" ["start", "letters", "lead", "sign", "most"] [] (spF K (Df P w K mg base e) Dg):=by
 have c_machine_met:Cal P w K mg base _ _ _ _ _ _:=NF T v m n
 have c_least:Cal P w K mg base _ _ _ _ _ _:=QM T B i
 refine Ws T.x_least_met Fd (λg cs ⟨⟨_,e⟩,_⟩=>by rw[e];rfl) (λg f u A h s H E j=>?_) [] (by simp)
 refine⟨_,(Zh (Zq (Zg (c_least.mono (by decide)) j rfl pass0 (Za (Zg (c_machine_met.mono (by decide)) j rfl pass0 (Za (pv 0) (Za (pv 1) (Za (pv 2) (Za (pv 3) (Za (pv 4) Zb)))))) Zb)))),?_⟩
 rintro cs ⟨⟨ok,rfl⟩,lm⟩
 obtain⟨g,sg⟩:=g
 show Sv K _ _ _ [some (.d (e g.start)),some (.d (.int g.n)),some (.obj (CloOk P w K mg base CX0 3 (spR K (YG e g) (YH e g) NP))),some (.obj (CloOk P w K mg base CX0 3 (spR K (X7 e g) (X8 e sg) NP))),some (.d (.int g.m))] _
 o_law
 refine ZH ?_
 o_law
 refine⟨(g,sg),[.d (e g.start),.d (.int g.n),.obj _,.obj _,.d (.int g.m)],.cons (.d NR.av rfl) (.cons (.d NR.av rfl) (.cons .o (.cons .o (.cons (.d NR.av rfl) .nil)))),⟨ok,rfl⟩,λc ⟨F,h1,h2,h3,ec⟩=>?_,λ_ z=>z.elim⟩
 subst ec
 refine⟨_,Got.own (YC _),?_⟩
 have hX:MetT g F:=⟨h1,h2,h3⟩
 o_law
 refine TQ (De hX lm) λR G q r=>?_
 exact⟨_,Zt rfl,_,⟨F,R,G,hX,q,r,rfl⟩,rfl⟩
theorem UE[DecidableEq α]{sg:α->Int}(h:Ys θ sg N):ltr N=θ.n/\Parts 1 64 N/\IsL N/\∀ w,Dgb (θ.n:Nat) w->sgw N w=sg (ZX θ w):=by
 obtain⟨F,R,G,hX,e,a,rfl⟩:=h
 have c:=E7 (sg:=sg) hX
 refine⟨by rw[a.lt,c],a.parts,⟨_,R,G,e,a,rfl⟩,λw b=>?_⟩
 rw[VZ e a (by show Dgb ((ltr _:Nat):Int) w;rw[c];exact b),E6 hX b]
def Xu(n m:Nat):List (Int×Int):=(rgI n).flatMap λx=>(rgI m).map λy=>(x,y)
theorem WO:p∈Xu n m↔(0<=p.1/\p.1<n)/\0<=p.2/\p.2<m:=by
 unfold Xu
 rw[List.mem_flatMap]
 constructor
 ·rintro⟨x,b,h⟩
  obtain⟨y,a,rfl⟩:=mem_map.mp h
  exact⟨ZD.mp b,ZD.mp a⟩
 ·rintro⟨e,c⟩
  exact⟨p.1,ZD.mpr e,mem_map.mpr ⟨p.2,ZD.mpr c,rfl⟩⟩
theorem T6(n m:Nat):(Xu n m).length=n*m:=by
 unfold Xu
 have:∀ l:List Int,(l.flatMap λx=>(rgI m).map λy=>(x,y)).length=l.length*m:=λl=>by
  induction l with
  | nil=>simp
  | cons a l b=>rw[List.flatMap_cons,List.length_append,b,length_map,length_cons,Nat.succ_mul];simp[rgI];omega
 rw[this]
 simp[rgI]
def XF(cs:List AV):Prop:=∃ x y:Int,cs=[.d (.int x),.d (.int y)]
def XG(g:Int->Int->Int)(cs:List AV)(c:AV):Prop:=∃ x y:Int,cs=[.d (.int x),.d (.int y)]/\c=.d (.int (g x y))
theorem Dh{a b:Int×Int}(h:dP a=dP b):a=b:=by
 have h:=PyData.tuple.inj h
 simp only[List.cons.injEq,and_true,PyData.int.injEq] at h
 exact Prod.ext h.1 h.2
def thQ(b:Int)(ns na nc:List OkS)(A B:Mach)(U:List (Int×Int)):Th (Int×Int):=⟨(0,0),(b ^ ns.length).toNat,100,λp l=>(stp A.rows p.1 (phi b ns na l),stp B.rows p.2 (phi b ns nc l)),U⟩
def sgP(g:Int->Int->Int)(A B:Mach)(p:Int×Int):Int:=g (A.signs.getD p.1.toNat 0) (B.signs.getD p.2.toNat 0)
structure PrOk(b:Int)(na nc:List OkS)(A B:Mach)(g:Int->Int->Int)(U:List (Int×Int)):Prop where
 hb:2<=b/\b<=5
 l1:na.length<=4
 l2:nc.length<=4
 w:∀ ns,OnceN (na++nc) ns->ns.length<=4/\b ^ ns.length<=64
 pa:Parts 1 64 A
 pb:Parts 1 64 B
 la:((ltr A:Nat):Int)=b ^ na.length
 lb:((ltr B:Nat):Int)=b ^ nc.length
 u0:(0,0)∈U
 ui:∀ p∈U,p∈Xu A.rows.length B.rows.length
 ul:U.length<=100
 uc:∀ ns,OnceN (na++nc) ns->∀ p∈U,∀ l:Nat,(l:Int)<b ^ ns.length->(stp A.rows p.1 (phi b ns na l),stp B.rows p.2 (phi b ns nc l))∈U
 g9:∀ x∈A.signs,∀ y∈B.signs,0<=g x y/\g x y<=9
variable{na nc:List OkS}{U:List (Int×Int)}
section
variable{A B:Mach}{g:Int->Int->Int}
theorem PrOk.cwa(h:PrOk b na nc A B g U)(o:OnceN (na++nc) ns):CwOk b ns na:=⟨h.hb,(h.w ns o).1,(h.w ns o).2,h.l1,λc a=>(o.m c).mpr (mem_append_left _ a)⟩
theorem PrOk.cwc(h:PrOk b na nc A B g U)(o:OnceN (na++nc) ns):CwOk b ns nc:=⟨h.hb,(h.w ns o).1,(h.w ns o).2,h.l2,λc a=>(o.m c).mpr (mem_append_right _ a)⟩
theorem Di(h:PrOk b na nc A B g U)(o:OnceN (na++nc) ns):(thQ b ns na nc A B U).Ok:=by
 have f:=Xh h.hb ns.length
 have e:=(h.w ns o).2
 have i:=h.ul
 refine⟨h.u0,λx c l a=>?_,?_,?_,?_⟩
 ·have a:l<(b ^ ns.length).toNat:=a
  exact h.uc ns o x c l (by omega)
 ·show (U.length:Int)<=100;omega
 ·show (b ^ ns.length).toNat<=1000;omega
 ·show U.length<=1000;omega
theorem QP(w:List Int):Dgb ((b ^ ns.length).toNat:Nat) w->ZX (thQ b ns na nc A B U) w=(rm A.rows (w.map (phi b ns na)),rm B.rows (w.map (phi b ns nc))):=by
 refine WN (M:=λw=>Dgb ((b ^ ns.length).toNat:Nat) w->ZX (thQ b ns na nc A B U) w=(rm A.rows (w.map (phi b ns na)),rm B.rows (w.map (phi b ns nc)))) w (λ_=>rfl) λv d a c=>?_
 obtain⟨e,f⟩:=c.snoc
 rw[Vj,a e,map_append,map_append,List.map_singleton,List.map_singleton,Xg,Xg]
 show (stp A.rows _ (phi b ns na (d.toNat:Int)),stp B.rows _ (phi b ns nc (d.toNat:Int)))=_
 rw[Int.toNat_of_nonneg f.1]
end
structure PrIx where
 b:Int
 na:List OkS
 nc:List OkS
 A:Mach
 B:Mach
 g:Int->Int->Int
 U:List (Int×Int)
abbrev PrIx.Ok(i:PrIx):Prop:=PrOk i.b i.na i.nc i.A i.B i.g i.U
def Dj(P:Program)(w:World)(K:W.Frag)(mg:Str->Option Value)(base:Heap)(i:PrIx)(cs:List AV):Prop :=
 i.Ok/\cs=[.d (.int i.b),.d (dM i.A),.d (.tuple (i.na.map dS)),.d (dM i.B),.d (.tuple (i.nc.map dS)),.obj (CloOk P w K mg base CX0 2 (spR K XF (XG i.g) NP))]
def V1(i:PrIx)(_:List AV)(d:AV):Prop:=∃ ns N,OnceN (i.na++i.nc) ns/\Ys (thQ i.b ns i.na i.nc i.A i.B i.U) (sgP i.g i.A i.B) N/\d=.d (Zr i.b ns N)
theorem Mr(T:Txt K mg)(B:base.BuiltinsAt mg mainGlobals)(M:∀ p∈ts0,p∈Tabs.ts):Cal P w K mg base CX0 9 "paired" ["base", "one", "one_names", "other", "other_names", "sign"] [] (spF K (Dj P w K mg base) V1):=by
 obtain⟨c0,W⟩:=T.x_paired
 have c_rising:Cal P w K mg base _ _ _ _ _ _:=Dc T
 have c_want_width:Cal P w K mg base _ _ _ _ _ _:=Mq T
 have c_letters_for:Cal P w K mg base _ _ _ _ _ _:=TW T
 have c_codes_within:Cal P w K mg base _ _ _ _ _ _:=Da T
 have c_least_met:Cal P w K mg base _ _ _ _ _ _:=QO T B M KEnc.pair (λa b e=>Dh e) λx=>rfl
 refine RL (k:=8) W Ww (λX cs ⟨_,e⟩=>by rw[e];rfl) (λX f A G s H E j=>?_)
 refine⟨_,(Ze (Zp (i:=6) Ww.nd rfl (Or.inl rfl) (Zg (c_rising.mono (by decide)) j rfl pass0 (Za (Zl (Z8 (K:=K) rfl) (pv 2) (pv 4)) Zb)))
   (Ze (Yh (Zg (c_want_width.mono (by decide)) j rfl pass0 (Za (pv 0) (Za (pv 6) Zb))))
   (Ze (Zp (i:=7) Ww.nd rfl (Or.inr rfl) (Zg (c_codes_within.mono (by decide)) j rfl pass0 (Za (pv 0) (Za (pv 6) (Za (pv 2) Zb)))))
   (Ze (Zp (i:=8) Ww.nd rfl (Or.inr rfl) (Zg (c_codes_within.mono (by decide)) j rfl pass0 (Za (pv 0) (Za (pv 6) (Za (pv 4) Zb)))))
   (Ze (Xp (name := "lead") (qual := "paired.<locals>.lead") (params:=ZP Wx) (body:=Zv Wx) (scope:=Zd Wx) (P:=X3) (i:=9) Ww.nd rfl (Or.inl rfl) rfl rfl rfl rfl rfl W.tab Fi B)
   (Ze (Xp (name := "pair_sign") (qual := "paired.<locals>.pair_sign") (params:=ZP Wy) (body:=Zv Wy) (scope:=Zd Wy) (P:=X3) (i:=10) Ww.nd rfl (Or.inl rfl) rfl rfl rfl rfl rfl W.tab Fl B)
   (Zh (Zq (Yd (Za (pv 0) (Za (pv 6) (Za (W9 (c_least_met.mono (by decide)) j rfl (W8 (E:=E0)) (Za (Yd (Za Zc (Za Zc Zb))) (Za (Zg (c_letters_for.mono (by decide)) j rfl pass0 (Za (pv 0) (Za (pv 6) Zb))) (Za (pv 9) (Za (pv 10) (Za (VB T.g_MOST_ROOMS rfl) Zb)))))) Zb)))))))))))),?_⟩
 rintro cs ⟨h,rfl⟩
 obtain⟨b,u,r,q,n,g,U⟩:=X
 replace h:PrOk b u r q n g U:=h
 have S:=h.hb
 have l1:=h.l1
 have l2:=h.l2
 show Sv K _ _ _ [some (.d (.int b)),some (.d (dM q)),some (.d (.tuple (u.map dS))),some (.d (dM n)),some (.d (.tuple (r.map dS))),some (.obj (CloOk P w K mg base CX0 2 (spR K XF (XG g) NP))),none,none,none,none,none] _
 o_law
 refine IT (ds:=u.map dS) (es:=r.map dS) rfl rfl (Kp.flat (X9 u)) (Kp.flat (X9 r)) (by rw[length_map,length_map];omega) ?_
 rw[<- map_append]
 o_law
 refine Dd (by rw[List.length_append];omega) λns o=>?_
 have C:=(h.w ns o).1
 have hw:=(h.w ns o).2
 have O:=Xh S ns.length
 o_law
 refine ZV (by walk_at "nrs") ⟨b,ns,rfl,S,C,hw,rfl⟩ (Got.own rfl) ?_
 o_law
 refine Mm (h.cwa o) ?_
 refine VN (Xe _) ?_
 o_law
 refine Mm (h.cwc o) ?_
 refine VN (Xe _) ?_
 have ok:=Di h o
 have la:=h.la
 have lb:=h.lb
 have Y:∀ {F:List OkS} {l:Nat},(l:Int)<b ^ ns.length->atI ((wtn b ns F).map PyData.int) (l:Int)=some (.int (phi b ns F l)):=λ{F l} z=>by
  have z2:l<(b ^ ns.length).toNat:=by omega
  rw[VU (by omega) (by unfold wtn;rw[length_map,length_range];omega),Int.toNat_natCast]
  unfold wtn
  rw[getD_eq_getElem?_getD,getElem?_map,getElem?_range z2]
  rfl
 o_law
 refine Xq (M (X3,Qx) (by simp[ts0])) (by decide +kernel) (by show 9<11;decide) ?_
 show Sv K _ _ _ [some (.d (.int b)),some (.d (dM q)),some (.d (.tuple (u.map dS))),some (.d (dM n)),some (.d (.tuple (r.map dS))),some (.obj (CloOk P w K mg base CX0 2 (spR K XF (XG g) NP))),some (.d (.tuple (ns.map dS))),some (.d (dI (wtn b ns u))),some (.d (dI (wtn b ns r))),some (.obj _),none] _
 o_law
 refine Xq (M (X3,Qx) (by simp[ts0])) (by decide +kernel) (by show 10<11;decide) ?_
 show Sv K _ _ _ [some (.d (.int b)),some (.d (dM q)),some (.d (.tuple (u.map dS))),some (.d (dM n)),some (.d (.tuple (r.map dS))),some (.obj (CloOk P w K mg base CX0 2 (spR K XF (XG g) NP))),some (.d (.tuple (ns.map dS))),some (.d (dI (wtn b ns u))),some (.d (dI (wtn b ns r))),some (.obj _),some (.obj _)] _
 o_law
 refine Yg ?_
 o_law
 refine Vc ?_
 o_law
 refine Yg ?_
 o_law
 refine⟨[.d (.int 0),.d (.int 0)],.cons rfl (.cons rfl .nil),by show 2<=1000;decide,?_⟩
 o_law
 refine ZV (by walk_at "nrs") ⟨b,ns,rfl,S,by omega,rfl⟩ (Got.own rfl) ?_
 rw[show b ^ ns.length=(((b ^ ns.length).toNat:Nat):Int) by omega]
 o_law
 refine⟨(thQ b ns u r q n U,sgP g q n),[.d (dP (0,0)),.d (.int (b ^ ns.length).toNat),.obj (CloOk P w K mg base CX0 3 (spR K (YG dP (thQ b ns u r q n U)) (YH dP (thQ b ns u r q n U)) NP)),.obj (CloOk P w K mg base CX0 3 (spR K (X7 dP (thQ b ns u r q n U)) (X8 dP (sgP g q n)) NP)),.d (.int 100)],
  .cons (.d NR.av rfl) (.cons (.d NR.av rfl) (.cons (.o (λv G1 G2 m h=>h.same m) λH0 Z ts as H1 H2 v s L Q=>?lead) (.cons (.o (λv G1 G2 m h=>h.same m) λH0 Z ts as H1 H2 v s L Q=>?sign) (.cons (.d NR.av rfl) .nil)))),⟨⟨ok,rfl⟩,⟨by show 1<=(b ^ ns.length).toNat;omega,by show (b ^ ns.length).toNat<=64;omega,h.ul,λp O=>?_⟩⟩,λd ⟨N,hN,ec⟩=>?_⟩
 case lead =>
  refine Xr (k:=2) Fg Fh Ww.nofree (λ_=>rfl) (λ_ _ _ _ _ s us C=>by obtain⟨a,b,rfl⟩:=len2 C;exact .of_eq rfl) (λcs ⟨x,l,e,_⟩=>by rw[e];rfl) (λcs ⟨x,l,e,_⟩=>by rw[e];rfl) Q L s λcl f c A G s H E j=>?_
  refine⟨_,(Zh (Zq (Yd (Za (Zj (Zk (K:=K) rfl j.units) (Zj (Zk (K:=K) rfl j.units) (Zj (Zk (K:=K) rfl j.units) (pv 2) Zc (λ_ _=>rfl)) (Zj (Zk (K:=K) rfl j.units) (pv 0) Zc (λ_ _=>rfl)) (λ_ _=>rfl)) (Zj (Zk (K:=K) rfl j.units) (pv 3) (pv 1) (λ_ _=>rfl)) (λ_ _=>rfl)) (Za (Zj (Zk (K:=K) rfl j.units) (Zj (Zk (K:=K) rfl j.units) (Zj (Zk (K:=K) rfl j.units) (pv 4) Zc (λ_ _=>rfl)) (Zj (Zk (K:=K) rfl j.units) (pv 0) Zc (λ_ _=>rfl)) (λ_ _=>rfl)) (Zj (Zk (K:=K) rfl j.units) (pv 5) (pv 1) (λ_ _=>rfl)) (λ_ _=>rfl)) Zb))))),?_⟩
  rintro cs ⟨x,l,rfl,y,C⟩
  have y:=WO.mp (h.ui x y)
  have C:l<(b ^ ns.length).toNat:=C
  have C:(l:Int)<b ^ ns.length:=by omega
  obtain⟨J,I⟩:=x
  show Sv K _ _ _ [some (.d (dP (J,I))),some (.d (.int l)),some (.d (dM q)),some (.d (dI (wtn b ns u))),some (.d (dM n)),some (.d (dI (wtn b ns r)))] _
  have p1:=V0 (h.cwa o) (k:=l) ⟨by omega,C⟩
  have p2:=V0 (h.cwc o) (k:=l) ⟨by omega,C⟩
  have ha:=(h.pa.row _ (YD (d:=[]) (show J.toNat<q.rows.length by omega))).1
  have R:=(h.pb.row _ (YD (d:=[]) (show I.toNat<n.rows.length by omega))).1
  o_law
  refine Yg ?_
  o_law
  refine YA rfl (VT y.1.1 y.1.2) Zs.d ?_
  o_law
  refine ZL rfl (Y C) (Zs.flat rfl) ?_
  refine YA rfl (X6 p1.1 (by rw[ha];show _<((ltr q:Nat):Int);omega)) Zs.d ?_
  o_law
  refine YA rfl (VT y.2.1 y.2.2) Zs.d ?_
  o_law
  refine ZL rfl (Y C) (Zs.flat rfl) ?_
  refine YA rfl (X6 p2.1 (by rw[R];show _<((ltr n:Nat):Int);omega)) Zs.d ?_
  o_law
  exact⟨[.d (.int (stp q.rows J (phi b ns u l))),.d (.int (stp n.rows I (phi b ns r l)))],.cons rfl (.cons rfl .nil),by show 2<=1000;decide,_,Zt rfl,(J,I),l,rfl,rfl⟩
 case sign =>
  refine Xr (k:=2) Fj Fk Ww.nofree (λ_=>rfl) (λ_ _ _ _ _ s us C=>by obtain⟨a,rfl⟩:=len1 C;exact .of_eq rfl) (λcs ⟨x,e,_⟩=>by rw[e];rfl) (λcs ⟨x,e,_⟩=>by rw[e];rfl) Q L s λcl f c A G s H E j=>?_
  refine⟨_,(Zh (Zq (RK (CX:=CX0) (P:=P) (w:=w) (K:=K) (mg:=mg) (base:=base) (i:=1) (k:=2) rfl rfl rfl rfl rfl (j.mono (by decide)) pass0 (Za (Zj (Zk (K:=K) rfl j.units) (Zj (Zk (K:=K) rfl j.units) (pv 2) Zc (λ_ _=>rfl)) (Zj (Zk (K:=K) rfl j.units) (pv 0) Zc (λ_ _=>rfl)) (λ_ _=>rfl)) (Za (Zj (Zk (K:=K) rfl j.units) (Zj (Zk (K:=K) rfl j.units) (pv 3) Zc (λ_ _=>rfl)) (Zj (Zk (K:=K) rfl j.units) (pv 0) Zc (λ_ _=>rfl)) (λ_ _=>rfl)) Zb))))),?_⟩
  rintro cs ⟨x,rfl,y⟩
  have y:=WO.mp (h.ui x y)
  obtain⟨J,I⟩:=x
  show Sv K _ _ _ [some (.d (dP (J,I))),some (.obj (CloOk P w K mg base CX0 2 (spR K XF (XG g) NP))),some (.d (dM q)),some (.d (dM n))] _
  o_law
  refine RH (i:=1) rfl ?_
  o_law
  refine YA rfl (X6 y.1.1 (by rw[h.pa.s];exact y.1.2)) Zs.d ?_
  o_law
  refine YA rfl (X6 y.2.1 (by rw[h.pb.s];exact y.2.2)) Zs.d ?_
  o_law
  refine⟨[.d (.int (q.signs.getD J.toNat 0)),.d (.int (n.signs.getD I.toNat 0))],.cons (.d NR.av rfl) (.cons (.d NR.av rfl) .nil),⟨_,_,rfl⟩,λc ⟨y1,y2,ee,ec⟩=>?_,λ_ z=>z.elim⟩
  simp only[append_nil,List.cons.injEq,AV.d.injEq,PyData.int.injEq,and_true] at ee
  obtain⟨rfl,rfl⟩:=ee
  subst ec
  exact⟨_,Got.own rfl,_,Zt rfl,(J,I),rfl,rfl⟩
 ·have O:=WO.mp (h.ui p O)
  exact h.g9 _ (YD (by rw[h.pa.s];omega)) _ (YD (by rw[h.pb.s];omega))
 subst ec
 refine⟨rfl,_,Got.own (YC _),?_⟩
 o_law
 exact⟨[.d (.int b),.d (.tuple (ns.map dS)),.d (dM N)],.cons rfl (.cons rfl (.cons rfl .nil)),by show 3<=1000;decide,_,Zt rfl,ns,N,o,hN,rfl⟩
theorem PrOk.of{A B:Mach}{g:Int->Int->Int}(hb:2<=b/\b<=5)(l1:na.length<=4)(l2:nc.length<=4)(hw:∀ ns,OnceN (na++nc) ns->ns.length<=4/\b ^ ns.length<=64)(pa:Parts 1 64 A)(pb:Parts 1 64 B)(la:((ltr A:Nat):Int)=b ^ na.length)(lb:((ltr B:Nat):Int)=b ^ nc.length)(n:A.rows.length*B.rows.length<=100)(g9:∀ x∈A.signs,∀ y∈B.signs,0<=g x y/\g x y<=9):PrOk b na nc A B g (Xu A.rows.length B.rows.length):=by
 have s:=pa.n0
 have r:=pb.n0
 refine⟨hb,l1,l2,hw,pa,pb,la,lb,WO.mpr ⟨⟨Int.le_refl _,by show (0:Int)<_;omega⟩,Int.le_refl _,by show (0:Int)<_;omega⟩,λp j=>j,by rw[T6];exact n,λns o x a l e=>?_,g9⟩
 have a:=WO.mp a
 have q:CwOk b ns na:=⟨hb,(hw ns o).1,(hw ns o).2,l1,λc f=>(o.m c).mpr (mem_append_left _ f)⟩
 have m:CwOk b ns nc:=⟨hb,(hw ns o).1,(hw ns o).2,l2,λc f=>(o.m c).mpr (mem_append_right _ f)⟩
 have i:=V0 q (k:=l) ⟨by omega,e⟩
 have h:=V0 m (k:=l) ⟨by omega,e⟩
 exact WO.mpr ⟨pa.stp a.1.1 a.1.2 i.1 (by show _<((ltr A:Nat):Int);omega),pb.stp a.2.1 a.2.2 h.1 (by show _<((ltr B:Nat):Int);omega)⟩
def Ms(cs:List AV):Prop:=∃ xs:List OkS,cs=[.d (.list (xs.map dS))]/\xs.length<=60
def Mt(cs:List AV)(c:AV):Prop:=∃ xs ns:List OkS,cs=[.d (.list (xs.map dS))]/\OnceN xs ns/\c=.d (.tuple (ns.map dS))
theorem QQ{xs:List OkS}(h:PyData.list (xs.map dS)=.list (ys.map dS)):xs=ys:=(List.map_inj_right λx y e=>Subtype.ext (PyData.str.inj e)).mp (PyData.list.inj h)
theorem Dk(T:Txt K mg):Cal P w K mg base CX0 1 "rising" ["names"] [] (spR K Ms Mt NP):=by
 refine Wm T.x_rising Nt (λcs ⟨n,e,_⟩=>by rw[e];rfl) (λf m A a s H E r=>?_) [] (by simp)
 refine⟨_,(Zh (Zq (Yk (Y3 (K:=K) rfl) rfl T.n_tuple PyProof.Rows.boot_tuple (Za (ZA (Ni (P:=P) (w:=w) rfl rfl rfl) rfl T.n_sorted PyProof.Rows.boot_sorted (Za (Yk (GF (P:=P) (w:=w) (K:=K) rfl rfl rfl rfl) rfl T.n_set PyProof.Rows.boot_set (Za (pv 0) Zb)) Zb)) Zb)))),?_⟩
 rintro cs ⟨xs,rfl,hl⟩
 show Sv K _ _ _ [some (.d (.list (xs.map dS)))] _
 w_on
 refine GH (P:=P) (w:=w) (ns:=xs.map Subtype.val) (by rw[TV.data,AV.data,TX]) (by rw[length_map];omega) λp j i h=>?_
 rw[length_map] at h
 w_on
 refine Nj (by omega) λq b c=>?_
 obtain⟨ns,rfl,g⟩:=OnceN.of (xs:=xs) (b.nodup_iff.mpr j) (λy=>b.mem_iff.trans (i y)) c
 w_on
 refine Y6 (ds:=(ns.map Subtype.val).map .str) (by rw[TV.data,AV.data,Yq]) (.inr (XR (λ_=>rfl) _)) ?_
 exact⟨_,Zt (by rw[<- TX]),xs,ns,rfl,g,rfl⟩
theorem Dl{xs:List OkS}{a:TV}(na:NR a)(b:a.data=.list (xs.map dS))(hl:xs.length<=60)(q:∀ ns,OnceN xs ns->Q (.av (.d (.tuple (ns.map dS))))):ClR Ms Mt NP [] Q X [a] :=
 ⟨[.d (.list (xs.map dS))],.cons (.d na b) .nil,⟨xs,rfl,hl⟩,λc ⟨xs',ns,e,hO,ec⟩=>by
  simp only[append_nil,List.cons.injEq,AV.d.injEq,and_true] at e
  have f:=QQ e
  subst f ec
  exact⟨_,Got.own (by show ZE (.tuple (ns.map dS))=true;simp only[ZE];exact X9 ns),q ns hO⟩,λ_ z=>z.elim⟩
theorem QR[DecidableEq α]{sg:α->Int}(c:Ys θ sg N):∀ s∈N.signs,∃ x,s=sg x:=by
 obtain⟨F,R,G,hX,i,e,rfl⟩:=c
 intro s b
 obtain⟨x,a,rfl⟩:=mem_map.mp (show s∈G.map (sgR (Yv θ sg F)) from b)
 have h:=ZD.mp (e.u x a)
 have g:(Yv θ sg F).rows.length=F.length:=length_map ..
 rw[g] at h
 have f:x.toNat<F.length:=by omega
 refine⟨F[x.toNat],?_⟩
 show (F.map sg).getD x.toNat 0=_
 rw[getD_eq_getElem?_getD,getElem?_map,getElem?_eq_getElem f]
 rfl
def XH(b:Int)(cs:List (OkS->Int)):Prop:=∀ f∈cs,∀ c,0<=f c/\f c<b
def wC(b:Int)(ns:List OkS)(cs:List (OkS->Int)):List Int:=cs.map λf=>num b (ns.map f)
theorem Dm[DecidableEq α](nd:xs.Nodup)(h:i<xs.length):idxD xs xs[i]=i:=nd.idxOf_getElem i h
theorem Dn[DecidableEq α]{c:α}(h:idxD xs c<xs.length):xs[idxD xs c]=c:=getElem_idxOf h
variable{c:OkS}{cs:List (OkS->Int)}
theorem V2(hb:2<=b/\b<=5)(h:XH b cs):Dgb (b ^ ns.length) (wC b ns cs):=λd g=>by
 obtain⟨f,e,rfl⟩:=mem_map.mp g
 have:=Ml hb (ns.map f) λx a=>by
  obtain⟨c,_,rfl⟩:=mem_map.mp a
  exact h f e c
 rwa [length_map] at this
theorem Do(b:c∈ns)(f:OkS->Int):(ns.map f).getD (idxD ns c) 0=f c:=by
 have a:=QN b
 rw[getD_eq_getElem?_getD,getElem?_map,getElem?_eq_getElem a]
 show f ns[idxD ns c]=_
 rw[Dn a]
theorem Mv(hb:2<=b/\b<=5)(e:∀ c∈part,c∈ns)(h:XH b cs):(wC b ns cs).map (phi b ns part)=wC b part cs:=by
 unfold wC
 rw[map_map]
 refine map_congr_left λf g=>?_
 show phi b ns part (num b (ns.map f))=_
 unfold phi
 rw[TZ hb (length_map ..) λx a=>by obtain⟨c,_,rfl⟩:=mem_map.mp a;exact h f g c]
 congr 1
 exact map_congr_left λc i=>Do (e c i) f
theorem Mw(nd:ns.Nodup)(hl:col.length=ns.length):ns.map (λc=>col.getD (idxD ns c) 0)=col:=by
 refine ext_getElem (by rw[length_map,hl]) λi b a=>?_
 rw[getElem_map]
 have e:idxD ns (ns[i]'(by omega))=i:=Dm nd (by omega)
 rw[e,getD_eq_getElem?_getD,getElem?_eq_getElem a]
 rfl
theorem QS(hb:2<=b/\b<=5)(nd:ns.Nodup):∀ {w:List Int},Dgb (b ^ ns.length) w->∃ cs,XH b cs/\wC b ns cs=w
 | [],_=>⟨[],(λ_ z=>nomatch z),rfl⟩
 | k::w,h=>by
  obtain⟨cs,q,p⟩:=QS hb nd (w:=w) λd n=>h d (.tail _ n)
  obtain⟨a,u,s,r⟩:=TY hb ns.length k (h k (.head _))
  have j:∀ i,0<=a.getD i 0/\a.getD i 0<b:=λi=>by
   by_cases g:i<a.length
   ·exact s _ (YD g)
   ·rw[getD_eq_getElem?_getD,getElem?_eq_none (by omega)]
    show (0:Int)<=0/\(0:Int)<b
    omega
  refine⟨(λc=>a.getD (idxD ns c) 0)::cs,λf m c=>?_,?_⟩
  ·rcases mem_cons.mp m with e|e
   ·rw[e];exact j _
   ·exact q f e c
  ·show num b (ns.map _)::wC b ns cs=_
   rw[Mw nd u,r,p]
theorem Dp(hb:2<=b/\b<=5)(nd:ns.Nodup)(c:0<=k/\k<b ^ ns.length):phi b ns ns k=k:=by
 obtain⟨e,a,f,rfl⟩:=TY hb ns.length k c
 unfold phi
 rw[TZ hb a f,Mw nd a]
theorem IsL.self{N:Mach}(h:IsL N):LotsM N (stA N)/\Rb N (stA N) (stA N)/\Zi N (stA N) (stA N)=N:=by
 obtain⟨A,R,G,i,a,rfl⟩:=h
 have e:stA (Zi A R G)=rgI G.length:=by show rgI (Zi A R G).rows.length=_;rw[a.len]
 obtain⟨m,c⟩:=LotsM.any a.parts
 have j:=i.id a c
 have f:=a.self
 have b:Bfs (gR (Zi A R G) (stA (Zi A R G))) (ltr (Zi A R G)) [0] 0 (stA (Zi A R G)):=by rw[a.lt,e] ;rw[e] at f;exact f
 refine⟨by rw[e,<- j];exact c,⟨a.parts,Eb _,b,?_,λx g=>g⟩,a.again b⟩
 rw[e]
 exact pairwise_map.mpr (List.nodup_range.imp λh e=>h (by omega))
theorem Mx{w:List Int}(hd:0<=d)(a:0<=rm N.rows w):nxM N (rm N.rows w).toNat d.toNat=(rm N.rows (w++[d])).toNat:=by
 rw[Xg]
 unfold nxM
 rw[Int.toNat_of_nonneg hd,Int.toNat_of_nonneg a]
section
variable{κ:List Int->β}
theorem My(h:IsL N)(h1:∀ w v,Dgb (bs N) w->Dgb (bs N) v->κ w=κ v->sgw N w=sgw N v)(h2:∀ w v d,Dgb (bs N) w->Dgb (bs N) v->κ w=κ v->0<=d/\d<bs N->κ (w++[d])=κ (v++[d])){w:List Int}(hw:Dgb (bs N) w)(a:Dgb (bs N) v)(e:κ w=κ v):rm N.rows w=rm N.rows v:=by
 obtain⟨q,p,n⟩:=h.self
 have b:=p.p
 have r:(stA N).length=N.rows.length:=by simp[rgI]
 have m:=Rb.co q p (λi j=>∃ w v,Dgb (bs N) w/\Dgb (bs N) v/\κ w=κ v/\i=(rm N.rows w).toNat/\j=(rm N.rows v).toNat) (λi j ⟨w,v,hw,a,_,e1,e2⟩=>by
  have g:=b.rm _ w rfl hw
  have f:=b.rm _ v rfl a
  rw[r]
  omega) (λi j ⟨w,v,hw,a,e,e1,e2⟩=>by
  rw[n,e1,e2]
  exact h1 w v hw a e) λi j ⟨w,v,hw,a,e,e1,e2⟩ l hlt=>by
  rw[n,e1,e2]
  have g:=b.rm _ w rfl hw
  have f:=b.rm _ v rfl a
  have c:0<=(l:Int)/\(l:Int)<bs N:=⟨by omega,by show (l:Int)<(ltr N:Nat);omega⟩
  exact⟨w++[(l:Int)],v++[(l:Int)],hw.add c,a.add c,h2 w v l hw a e c,Mx c.1 g.1,Mx c.1 f.1⟩
 have:=m _ _ ⟨w,v,hw,a,e,rfl,rfl⟩
 have g:=b.rm _ w rfl hw
 have f:=b.rm _ v rfl a
 omega
theorem Dq(h:IsL N):∀ x:Int,0<=x/\x<N.rows.length->∃ w,Dgb (bs N) w/\rm N.rows w=x:=by
 obtain⟨j,a,i⟩:=h.self
 have g:=a.p
 intro x f
 refine a.bf.pred (P:=λx=>∃ w,Dgb (bs N) w/\rm N.rows w=x) (λy c=>?_) (λy ⟨w,hw,e⟩ l hl=>?_) x (ZD.mpr f)
 ·rw[mem_singleton.mp c]
  exact⟨[],(λ_ z=>nomatch z),rfl⟩
 ·have b:0<=(l:Int)/\(l:Int)<bs N:=⟨by omega,by show (l:Int)<(ltr N:Nat);omega⟩
  refine⟨w++[(l:Int)],hw.add b,?_⟩
  have r:=g.rm _ _ rfl (hw.add b)
  rw[Xg,e] at r ⊢
  unfold gR
  generalize stp N.rows y l=z at r
  have hz:z.toNat<(rgI N.rows.length).length:=by simp[rgI];omega
  show z=(rgI N.rows.length).getD z.toNat 0
  rw[getD_eq_getElem?_getD,getElem?_eq_getElem hz]
  simp[rgI]
  omega
theorem Dr[DecidableEq β](h:IsL N){V:List β}(p:∀ w,Dgb (bs N) w->κ w∈V)(det:∀ w v,Dgb (bs N) w->Dgb (bs N) v->κ w=κ v->rm N.rows w=rm N.rows v):N.rows.length<=V.length:=by
 have ex:=Dq h
 have n:∀ i:Nat,∃ w,i<N.rows.length->Dgb (bs N) w/\rm N.rows w=i:=λi=>by
  by_cases a:i<N.rows.length
  ·obtain⟨w,c,b⟩:=ex i ⟨by omega,by omega⟩
   exact⟨w,λ_=>⟨c,b⟩⟩
  ·exact⟨[],λz=>absurd z a⟩
 obtain⟨f,g⟩:=Classical.axiomOfChoice n
 have:=XE (met:=(List.range N.rows.length).map λi=>κ (f i)) (U:=V) ?_ λx m=>?_
 ·simpa using this
 ·refine pairwise_map.mpr (List.Pairwise.imp_of_mem (λ{i j} a hj hne e=>hne ?_) List.nodup_range)
  have c:=g i (mem_range.mp a)
  have b:=g j (mem_range.mp hj)
  have:=det _ _ c.1 b.1 e
  rw[c.2,b.2] at this
  omega
 ·obtain⟨i,a,rfl⟩:=mem_map.mp m
  exact p _ (g i (mem_range.mp a)).1
end
section
variable [DecidableEq α]{sg:α->Int}
theorem Ds(h:Ys θ sg N){w:List Int}(hw:Dgb (bs N) w)(a:Dgb (bs N) v)(e:ZX θ w=ZX θ v):rm N.rows w=rm N.rows v:=by
 obtain⟨f,j,c,b⟩:=UE h
 have g:bs N=((θ.n:Nat):Int):=by show ((ltr N:Nat):Int)=_;rw[f]
 refine My (κ:=ZX θ) c (λw v hw a e=>?_) (λw v d hw a e i=>by rw[Vj,Vj,e]) hw a e
 rw[g] at hw a
 rw[b w hw,b v a,e]
theorem QT(h:Ys θ sg N):N.rows.length<=θ.U.length:=by
 obtain⟨F,R,G,hX,b,a,rfl⟩:=h
 rw[a.len]
 refine Nat.le_trans a.le (Nat.le_trans ?_ (XE hX.nd hX.u))
 exact Nat.le_of_eq (length_map ..)
end
theorem V3(a:Parts 1 64 N){w:List Int}(hw:Dgb (bs N) w):sgw N w∈N.signs:=by
 have:=a.rm _ w rfl hw
 exact YD (by rw[a.s];omega)
def Nrw(b:Int)(ns:List OkS):Prop:=ns.length<=4/\b ^ ns.length<=64
structure Rn(b:Int)(ns:List OkS)(N:Mach):Prop where
 hb:2<=b/\b<=5
 s:OnceN ns ns
 n:Nrw b ns
 p:Parts 1 64 N
 lt:((ltr N:Nat):Int)=b ^ ns.length
 il:IsL N
 b1:∀ x∈N.signs,x=0\/x=1
theorem get01{l:List Int}(h:∀ x∈l,x=0\/x=1)(i:Nat):l.getD i 0=0\/l.getD i 0=1:=by
 by_cases a:i<l.length
 ·exact h _ (YD a)
 ·rw[getD_eq_getElem?_getD,getElem?_eq_none (by omega)];exact .inl rfl
def Mn(b:Int)(ns:List OkS)(N:Mach)(F:List (OkS->Int)->Prop):Prop:=Rn b ns N/\∀ cs,XH b cs->(sgw N (wC b ns cs)=1↔F cs)
section
variable{A B:Mach}{F G:List (OkS->Int)->Prop}{g:Int->Int->Int}
theorem Rn.mn(h:Rn b ns N):Mn b ns N λcs=>sgw N (wC b ns cs)=1:=⟨h,λ_ _=>.rfl⟩
theorem Mn.eq(h:Mn b ns N F)(h':Mn b ms M G)(e:∀ c,c∈ns↔c∈ms)(f:∀ cs,XH b cs->(F cs↔G cs)):ns=ms/\N=M:=by
 obtain⟨h,m⟩:=h
 obtain⟨h',g⟩:=h'
 have en:ns=ms:=OnceN.one h.s ⟨h'.s.s,h'.s.d,λc=>(e c).symm⟩
 subst en
 refine⟨rfl,E4 h.il h'.il (by have:=h.lt;have:=h'.lt;omega) λw i=>?_⟩
 have j:Dgb (bs M) w:=by rw[show bs M=bs N from h'.lt.trans h.lt.symm];exact i
 rcases h.b1 _ (V3 h.p i) with x|x<;>rcases h'.b1 _ (V3 h'.p j) with y|y
 ·rw[x,y]
 ·obtain⟨cs,a,rfl⟩:=QS h.hb h.s.d (w:=w) (by rw[<- h.lt];exact i)
  rw[(m cs a).mpr ((f cs a).mpr ((g cs a).mp y))] at x
  cases x
 ·obtain⟨cs,a,rfl⟩:=QS h.hb h.s.d (w:=w) (by rw[<- h.lt];exact i)
  rw[(g cs a).mpr ((f cs a).mp ((m cs a).mp x))] at y
  cases y
 ·rw[x,y]
theorem Mz(pr:PrOk b na nc A B g U)(o:OnceN (na++nc) ns)(q:∀ p,sgP g A B p=0\/sgP g A B p=1)(e:Ys (thQ b ns na nc A B U) (sgP g A B) N) :
  Rn b ns N/\(∀ w v,Dgb (b ^ ns.length) w->Dgb (b ^ ns.length) v->rm A.rows (w.map (phi b ns na))=rm A.rows (v.map (phi b ns na))->rm B.rows (w.map (phi b ns nc))=rm B.rows (v.map (phi b ns nc))->rm N.rows w=rm N.rows v)/\∀ cs,XH b cs->sgw N (wC b ns cs)=g (sgw A (wC b na cs)) (sgw B (wC b nc cs)):=by
 obtain⟨f,u,s,r⟩:=UE e
 have E:=Xh pr.hb ns.length
 have f:ltr N=(b ^ ns.length).toNat:=f
 have en:(((b ^ ns.length).toNat:Nat):Int)=b ^ ns.length:=by omega
 have h:bs N=b ^ ns.length:=by show ((ltr N:Nat):Int)=_;rw[f,en]
 refine⟨⟨pr.hb,⟨o.s,o.d,λ_=>.rfl⟩,pr.w ns o,u,h,s,λx n=>?_⟩,λw v i j C y=>?_,λcs a=>?_⟩
 ·obtain⟨p,rfl⟩:=QR e x n
  exact q p
 ·refine Ds e (by rw[h];exact i) (by rw[h];exact j) ?_
  rw[QP w (by rw[en];exact i),QP v (by rw[en];exact j),C,y]
 ·have m:Dgb (((b ^ ns.length).toNat:Nat):Int) (wC b ns cs):=by rw[en];exact V2 pr.hb a
  rw[show sgw N (wC b ns cs)=sgP g A B (ZX (thQ b ns na nc A B U) (wC b ns cs)) from r _ m,QP _ m,Mv pr.hb (λc a=>(o.m c).mpr (mem_append_left _ a)) a,Mv pr.hb (λc a=>(o.m c).mpr (mem_append_right _ a)) a]
  rfl
def gOk(g:Int->Int->Int):Prop:=∀ x y,(x=0\/x=1)->(y=0\/y=1)->g x y=0\/g x y=1
theorem Rn.sgs(e:Rn b na A)(c:Rn b nc B)(a:gOk g)(p:Int×Int):sgP g A B p=0\/sgP g A B p=1:=a _ _ (get01 e.b1 _) (get01 c.b1 _)
theorem Rn.g9(i:Rn b na A)(h:Rn b nc B)(f:gOk g):∀ x∈A.signs,∀ y∈B.signs,0<=g x y/\g x y<=9:=λx c y a=>by rcases f x y (i.b1 x c) (h.b1 y a) with e|e<;>rw[e]<;>decide
theorem lock[DecidableEq β](a:Rn b ns A)(m:Rn b ns B)(y:gOk g)(κ:List Int->β){V:List β}(hn:V.length<=100)(C:∀ w,Dgb (b ^ ns.length) w->κ w∈V)
  (det:∀ w v,Dgb (b ^ ns.length) w->Dgb (b ^ ns.length) v->κ w=κ v->rm A.rows w=rm A.rows v/\rm B.rows w=rm B.rows v):∃ U:List (Int×Int),U.length<=V.length/\PrOk b ns ns A B g U:=by
 open Classical in
 refine⟨(V.filter λv=>decide (∃ w,Dgb (b ^ ns.length) w/\κ w=v)).map λv=>if h:∃ w,Dgb (b ^ ns.length) w/\κ w=v then (rm A.rows h.choose,rm B.rows h.choose) else (0,0),by rw[length_map];exact List.length_filter_le _ _,?_⟩
 have f:∀ p:Int×Int,p∈((V.filter λv=>decide (∃ w,Dgb (b ^ ns.length) w/\κ w=v)).map λv=>if h:∃ w,Dgb (b ^ ns.length) w/\κ w=v then (rm A.rows h.choose,rm B.rows h.choose) else (0,0))↔∃ w,Dgb (b ^ ns.length) w/\p=(rm A.rows w,rm B.rows w):=λp=>by
  rw[mem_map]
  constructor
  ·rintro⟨v,u,rfl⟩
   have h:=of_decide_eq_true (mem_filter.mp u).2
   rw[dif_pos h]
   exact⟨_,h.choose_spec.1,rfl⟩
  ·rintro⟨w,i,rfl⟩
   have h:∃ r,Dgb (b ^ ns.length) r/\κ r=κ w:=⟨w,i,rfl⟩
   refine⟨κ w,mem_filter.mpr ⟨C w i,decide_eq_true h⟩,?_⟩
   rw[dif_pos h]
   obtain⟨F,E⟩:=det _ _ h.choose_spec.1 i h.choose_spec.2
   rw[F,E]
 have j:=a.n.1
 refine⟨a.hb,j,j,λn o=>?_,a.p,m.p,a.lt,m.lt,(f _).mpr ⟨[],(λ_ z=>nomatch z),rfl⟩,λp q=>?_,?_,λn o p q l x=>?_,a.g9 m y⟩
 ·have e:n=ns:=OnceN.one (xs:=ns) ⟨o.s,o.d,λc=>(o.m c).trans (by simp)⟩ a.s
  rw[e];exact a.n
 ·obtain⟨w,i,rfl⟩:=(f p).mp q
  exact WO.mpr ⟨a.p.rm _ w rfl (by show Dgb (bs A) w;rw[show bs A=_ from a.lt];exact i),m.p.rm _ w rfl (by show Dgb (bs B) w;rw[show bs B=_ from m.lt];exact i)⟩
 ·rw[length_map]
  exact Nat.le_trans (List.length_filter_le _ _) hn
 ·have e:n=ns:=OnceN.one (xs:=ns) ⟨o.s,o.d,λc=>(o.m c).trans (by simp)⟩ a.s
  subst e
  obtain⟨w,i,rfl⟩:=(f p).mp q
  have s:0<=(l:Int)/\(l:Int)<b ^ n.length:=⟨by omega,x⟩
  rw[Dp a.hb a.s.d s]
  exact (f _).mpr ⟨w++[(l:Int)],i.add s,by rw[Xg,Xg]⟩
def noM(M:Mach):Mach:=⟨M.rows,M.signs.map λs=>1-s⟩
theorem T7(h:i<N.signs.length):(noM N).signs.getD i 0=1-N.signs.getD i 0:=by
 show (N.signs.map _).getD i 0=_
 rw[getD_eq_getElem?_getD,getElem?_map,getElem?_eq_getElem h,getD_eq_getElem?_getD,getElem?_eq_getElem h]
 rfl
theorem Du(h:Rn b ns N):Rn b ns (noM N):=by
 have f:∀ x∈(noM N).signs,x=0\/x=1:=λx c=>by
  obtain⟨y,A,rfl⟩:=mem_map.mp (show x∈N.signs.map _ from c)
  rcases h.b1 y A with e|e<;>rw[e]<;>simp
 have g:=h.p.s
 have q:Parts 1 64 (noM N):=⟨h.p.n0,h.p.n1,by show (N.signs.map _).length=_;rw[length_map];exact g,h.p.row,h.p.l0,h.p.l1,λx c=>by rcases f x c with e|e<;>rw[e]<;>decide⟩
 obtain⟨w,a,p⟩:=h.il.self
 refine⟨h.hb,h.s,h.n,q,h.lt,⟨noM N,stA N,stA N,?_,⟨q,⟨a.sk.len,a.sk.all⟩,a.bf,a.nd,a.u⟩,?_⟩,f⟩
 ·obtain⟨al,B,v⟩:=w.ex
  refine⟨al,λi j u r=>?_,v⟩
  rw[B i j u r]
  have n:tl (noM N).signs i=1-tl N.signs i:=T7 (by rw[g];exact u)
  have m:tl (noM N).signs j=1-tl N.signs j:=T7 (by rw[g];exact r)
  rw[n,m]
  omega
 ·have n:(Zi N (stA N) (stA N)).rows=N.rows:=congrArg Mach.rows p
  have m:(stA N).map (sgR N)=N.signs:=congrArg Mach.signs p
  have C:(stA N).map (sgR (noM N))=(noM N).signs:=by
   show _=N.signs.map λs=>1-s
   conv=>rhs;rw[<- m,map_map]
   refine map_congr_left λx c=>?_
   have:=ZD.mp c
   exact T7 (by rw[g];omega)
  show noM N=Mach.mk (Zi N (stA N) (stA N)).rows ((stA N).map (sgR (noM N)))
  rw[n,C]
  rfl
theorem T8(h:Mn b ns N F):Mn b ns (noM N) λcs=>¬ F cs:=by
 refine⟨Du h.1,λcs c=>?_⟩
 have a:Dgb (bs N) (wC b ns cs):=by rw[show bs N=_ from h.1.lt];exact V2 h.1.hb c
 have:=h.1.p.rm _ _ rfl a
 show _↔¬ F cs
 rw[show sgw (noM N) (wC b ns cs)=1-sgw N (wC b ns cs) from T7 (N:=N) (i:=(rm N.rows (wC b ns cs)).toNat) (by rw[h.1.p.s];omega),<- h.2 cs c]
 rcases h.1.b1 _ (V3 h.1.p a) with e|e<;>rw[e]<;>decide
theorem Dv(h:∀ x∈N.signs,x=0\/x=1):noM (noM N)=N:=by
 obtain⟨rows,a⟩:=N
 unfold noM
 congr 1
 rw[map_map]
 exact (map_congr_left (g:=id) λ(x:Int) _=>show (1:Int)-(1-x)=x by omega).trans (map_id _)
end
theorem YT(b:Int)(ns:List OkS)(N:Mach):ZE (Zr b ns N)=true:=by
 have c:noLsts (ns.map dS)=true:=XR (λ_=>rfl) ns
 have a:=YC N
 simpa only[ZE,noLsts,Bool.and_true,Bool.true_and,c] using a
def Dw(ds:List PyData)(c:AV):Prop:=∃ t:Bool,ds=[.bool t]/\c=.d (.int (if t=true then 1 else 0))
theorem T9(T:Txt K mg):Cal P w K mg base CX0 1 "as_sign" ["truth"] [] (spV K Dw NX):=by
 refine val T.x_as_sign Fw (λds c ⟨_,e,_⟩=>by rw[e];rfl) (λf b A a s H E g=>?_) [] (by simp)
 refine⟨_,(Zh (Zq (Q9 (LE (pv 0)) Zc Zc))),?_⟩
 rintro ds c ⟨t,rfl,rfl⟩
 show Sv K _ _ _ [some (.d (.bool t))] _
 w_on
 refine ite2 (λh=>?_) λh=>?_
 ·w_on
  rw[if_pos (by simpa using h)]
  exact Zt rfl
 ·w_on
  rw[if_neg (by simpa using h)]
  exact Zt rfl
def isM(M:Mach)(s:Int):Mach:=⟨M.rows,M.signs.map λx=>if decide (x=s)=true then 1 else 0⟩
theorem MC(x s:Int):(if decide (x=s)=true then (1:Int) else 0)=0\/(if decide (x=s)=true then (1:Int) else 0)=1:=by
 split
 ·exact .inr rfl
 ·exact .inl rfl
variable{s:Int}
theorem Dx(h:Parts 1 64 M):Parts 1 64 (isM M s) :=
 ⟨h.n0,h.n1,by show (M.signs.map _).length=_;rw[length_map];exact h.s,h.row,h.l0,h.l1,λx a=>by
  obtain⟨y,_,rfl⟩:=mem_map.mp a
  rcases MC y s with e|e<;>rw[e]<;>decide⟩
def XI(M:Mach)(s:Int)(N:Mach):Prop:=∃ R G,LotsM (isM M s) R/\Rb (isM M s) R G/\N=Zi (isM M s) R G
theorem XI.l(h:XI M s N):IsL N/\ltr N=ltr M/\Parts 1 64 N:=by
 obtain⟨R,G,b,a,rfl⟩:=h
 exact⟨⟨_,R,G,b,a,rfl⟩,by rw[a.lt];rfl,a.parts⟩
theorem XI.sgs(c:Parts 1 64 M)(h:XI M s N):∀ x∈N.signs,x=0\/x=1:=by
 obtain⟨R,G,m,f,rfl⟩:=h
 intro y b
 obtain⟨x,a,rfl⟩:=mem_map.mp (show y∈G.map (sgR (isM M s)) from b)
 have j:=ZD.mp (f.u x a)
 have i:(isM M s).rows.length=M.signs.length:=c.s.symm
 rw[i] at j
 have g:x.toNat<M.signs.length:=by omega
 have e:sgR (isM M s) x=if decide (M.signs[x.toNat]=s)=true then 1 else 0:=by
  show (M.signs.map _).getD x.toNat 0=_
  rw[getD_eq_getElem?_getD,getElem?_map,getElem?_eq_getElem g]
  rfl
 rw[e]
 exact MC _ s
theorem XI.wd(a:Parts 1 64 M)(h:XI M s N){w:List Int}(hw:Dgb (bs M) w):sgw N w=if decide (sgw M w=s)=true then 1 else 0:=by
 obtain⟨R,G,c,e,rfl⟩:=h
 rw[VZ c e (show Dgb (bs (isM M s)) w from hw)]
 have g:=a.rm _ w rfl hw
 have f:=a.s
 have b:(rm M.rows w).toNat<M.signs.length:=by omega
 show (M.signs.map _).getD (rm M.rows w).toNat 0=if decide (M.signs.getD (rm M.rows w).toNat 0=s)=true then 1 else 0
 rw[getD_eq_getElem?_getD,getElem?_map,getElem?_eq_getElem b,getD_eq_getElem?_getD,getElem?_eq_getElem b]
 rfl
theorem Parts.mok(h:Parts 1 64 M):Mok M:=⟨h.n0,Nat.le_trans h.n1 (by decide),h.row,h.s,by have a:=h.l1;show (M.rows.getD 0 []).length<=1000;omega,by have a:=h.l0;show 0<(M.rows.getD 0 []).length;omega⟩
def MD(cs:List AV):Prop:=∃ (M:Mach) (nm:OkS) (s:Int),cs=[.d (dM M),.d (dS nm),.d (.int s)]/\Parts 1 64 M/\2<=bs M/\bs M<=5
def ME(cs:List AV)(c:AV):Prop:=∃ (M:Mach) (nm:OkS) (s:Int) (N:Mach),cs=[.d (dM M),.d (dS nm),.d (.int s)]/\XI M s N/\c=.d (Zr (bs M) [nm] N)
variable{nm:OkS}
theorem Dy{b:Mach}{s':Int}{a:OkS}(e:[AV.d (dM M),.d (dS nm),.d (.int s)]=[AV.d (dM b),.d (dS a),.d (.int s')]):M=b/\nm=a/\s=s':=by
 simp only[List.cons.injEq,AV.d.injEq,PyData.int.injEq,and_true] at e
 exact⟨VW e.1,Subtype.ext (PyData.str.inj e.2.1),e.2.2⟩
def MF(ds:List PyData)(c:AV):Prop:=∃ M,ds=[dM M]/\Mok M/\(2<=bs M/\bs M<=5)/\c=.d (.int (bs M))
theorem MG(T:Txt K mg):Cal P w K mg base CX0 2 "base_of" ["row"] [] (spV K MF NX):=by
 have c_want_base:Cal P w K mg base _ _ _ _ _ _:=TR T
 refine val T.x_base_of Nr (λds c ⟨M,e,_⟩=>by rw[e];rfl) (λf g A a s H E b=>?_) [] (by simp)
 refine⟨_,(Ze (Zp (i:=1) Nr.nd rfl (Or.inl rfl) (ZA (ZS (K:=K) rfl) rfl T.n_len PySem.boot_len (Za (Zj (Zk (K:=K) rfl b.units) (Zj (Zk (K:=K) rfl b.units) (pv 0) Zc (λ_ _=>rfl)) Zc (λ_ _=>rfl)) Zb)))
   (Ze (Yh (Zg (c_want_base.mono (by decide)) b rfl pass0 (Za (pv 1) Zb)))
   (Zh (Zq (pv 1))))),?_⟩
 rintro ds c ⟨M,rfl,h,hb,rfl⟩
 show Sv K _ _ _ [some (.d (dM M)),none] _
 have:=h.n
 o_law
 refine YA rfl (VT (by decide) (by omega)) Zs.d ?_
 o_law
 refine W3 rfl ?_
 rw[length_map]
 show ∃ j,Sto _ (.av (.d (.int (bs M)))) j/\_
 o_law
 refine TU hb ?_
 o_law
 exact Zt rfl
theorem QU(h:Mok M)(hb:2<=bs M/\bs M<=5)(q:Q (.av (.d (.int (bs M))))):Cl MF [] Q [.av (.d (dM M))]:=ZV (by walk_at "nrs") ⟨M,rfl,h,hb,rfl⟩ (Got.own rfl) q
theorem MH(T:Txt K mg)(B:base.BuiltinsAt mg mainGlobals)(c:∀ p∈ts0,p∈Tabs.ts):Cal P w K mg base CX0 8 "sign_is" ["row", "name", "sign"] [] (spR K MD ME NP):=by
 have c_base_of:Cal P w K mg base _ _ _ _ _ _:=MG T
 have c_as_sign:Cal P w K mg base _ _ _ _ _ _:=T9 T
 have c_least:Cal P w K mg base _ _ _ _ _ _:=QM T B c
 refine Wm T.x_sign_is Ql (λcs ⟨_,_,_,e,_⟩=>by rw[e];rfl) (λf j A b s H E a=>?_) [] (by simp)
 refine⟨_,(Ze (Zp (i:=3) Ql.nd rfl (Or.inl rfl) (Zg (c_base_of.mono (by decide)) a rfl pass0 (Za (pv 0) Zb)))
   (Ze (Zp (i:=4) Ql.nd rfl (Or.inl rfl) (Yk (Y3 (K:=K) rfl) rfl T.n_tuple PyProof.Rows.boot_tuple (Za (Y1 (N:=["one", "sign"]) (cap:=[none,some 2]) rfl rfl rfl (by kernel_rfl) (Xo (K:=K) rfl (Zj (Zk (K:=K) rfl a.units) (pv 0) Zc (λ_ _=>rfl))) (λ_ _ _ _=>(ZI (i:=0) (show (["one", "sign"]:List Str).Nodup from by decide +kernel) rfl (Or.inl rfl))) (λ_ _ _ _=>YO) (λ_ _ _ _=>(Zg (c_as_sign.mono (by decide)) a rfl pass0 (Za (Vu (Yu (K:=K) rfl a.units) (pv 0) (pv 1) (nomark _)) Zb)))) Zb)))
   (Zh (Zq (Yd (Za (pv 3) (Za (Yd (Za (pv 1) Zb)) (Za (Zg (c_least.mono (by decide)) a rfl pass0 (Za (Yd (Za (Zj (Zk (K:=K) rfl a.units) (pv 0) Zc (λ_ _=>rfl)) (Za (pv 4) Zb))) Zb)) Zb)))))))),?_⟩
 rintro cs ⟨M,nm,s,rfl,hM,hb⟩
 show Sv K _ _ _ [some (.d (dM M)),some (.d (dS nm)),some (.d (.int s)),none,none] _
 o_law
 refine QU hM.mok hb ?_
 o_law
 refine Wi (α:=Int) ?_
 o_law
 have m:=hM.s
 have n:=hM.n1
 refine⟨M.signs,PyData.int,λx=>.d (.int (if decide (x=s)=true then 1 else 0)),.inr rfl,NR.av,by omega,λi q=>?_,_,Got.own (YR λ_=>rfl),?_⟩
 ·show Gv K _ _ [none,some (.d (.int s))] _
  w_on
  refine⟨Y7,?_⟩
  w_on
  exact ZV (by walk_at "nrs") ⟨_,rfl,rfl⟩ (Got.own rfl) rfl
 o_law
 refine Y6 (ds:=(isM M s).signs.map .int) (by rw[TV.data,AV.data,Yq];simp only[isM,map_map];rfl) (.inl rfl) ?_
 o_law
 refine Yg ?_
 o_law
 refine Yg ?_
 o_law
 refine⟨[.d (dS nm)],.cons rfl .nil,by show 1<=1000;decide,?_⟩
 o_law
 refine Yg ?_
 o_law
 refine⟨[.d (tR M.rows),.d (tI (isM M s).signs)],.cons rfl (.cons rfl .nil),by show 2<=1000;decide,?_⟩
 o_law
 refine TQ (M:=isM M s) (Dx hM) λR G g h=>?_
 o_law
 refine⟨[.d (.int (bs M)),.d (.tuple [dS nm]),.d (dM (Zi (isM M s) R G))],.cons rfl (.cons rfl (.cons rfl .nil)),by show 3<=1000;decide,?_⟩
 exact⟨_,Zt rfl,M,nm,s,_,rfl,⟨R,G,g,h,rfl⟩,rfl⟩
def MI(ds:List PyData)(c:AV):Prop:=∃ M,ds=[dM M]/\Mok M/\c=.d (.int (M.lt:Nat))
theorem Dz(T:Txt K mg):Cal P w K mg base CX0 1 "letters_in" ["machine"] [] (spV K MI NX):=by
 refine val T.x_letters_in Fu (λds c ⟨M,e,_⟩=>by rw[e];rfl) (λf g A a s H E b=>?_) [] (by simp)
 refine⟨_,(Zh (Zq (ZA (ZS (K:=K) rfl) rfl T.n_len PySem.boot_len (Za (Zj (Zk (K:=K) rfl b.units) (Zj (Zk (K:=K) rfl b.units) (pv 0) Zc (λ_ _=>rfl)) Zc (λ_ _=>rfl)) Zb)))),?_⟩
 rintro ds c ⟨M,rfl,h,rfl⟩
 show Sv K _ _ _ [some (.d (dM M))] _
 have:=h.n
 o_law
 refine YA rfl (VT (by decide) (by omega)) Zs.d ?_
 o_law
 refine W3 rfl ?_
 rw[length_map]
 exact Zt rfl
theorem MJ(h:Mok M)(q:Q (.av (.d (.int (M.lt:Nat))))):Cl MI [] Q [.av (.d (dM M))]:=ZV (by walk_at "nrs") ⟨M,rfl,h,rfl⟩ (Got.own rfl) q
def MK(ds:List PyData)(c:AV):Prop:=∃ M N,ds=[dM M,dM N]/\Mok M/\Mok N/\M.lt=N.lt/\c=.d .none
theorem DA(T:Txt K mg):Cal P w K mg base CX0 2 "want_like" ["one", "other"] [] (spV K MK NX):=by
 have c_letters_in:Cal P w K mg base _ _ _ _ _ _:=Dz T
 refine val T.x_want_like Fv (λds c ⟨M,N,e,_⟩=>by rw[e];rfl) (λf g A a s H E b=>?_) [] (by simp)
 refine⟨_,(Zh (Z3 (Zw (Yz (K:=K) rfl b.units) (Zg (c_letters_in.mono (by decide)) b rfl pass0 (Za (pv 0) Zb)) (Zg (c_letters_in.mono (by decide)) b rfl pass0 (Za (pv 1) Zb)) (nomark _))
    (Zh Vp)
    ZO)),?_⟩
 rintro ds c ⟨M,N,rfl,hM,hN,hl,rfl⟩
 show Sv K _ _ _ [some (.d (dM M)),some (.d (dM N))] _
 w_on
 refine MJ hM ?_
 w_on
 refine MJ hN ?_
 rw[hl]
 w_on
 refine SO (by simp) ?_
 w_on
 exact rfl
theorem DB(b:Mok M)(a:Mok N)(hl:M.lt=N.lt)(q:Q (.av (.d .none))):Cl MK [] Q [.av (.d (dM M)),.av (.d (dM N))]:=ZV (by walk_at "nrs") ⟨M,N,rfl,b,a,hl,rfl⟩ (Got.own rfl) q
def LsO(M N:Mach):Prop:=∃ R G,LotsM M R/\Rb M R G/\N=Zi M R G
theorem LsO.le{M L:Mach}(h:LsO M L):L.rows.length<=M.rows.length:=by
 obtain⟨R,G,_,b,rfl⟩:=h
 rw[b.len]
 exact b.le
def gE(x y:Int):Int:=if decide (x=y)=true then 1 else 0
theorem ML(x y:Int):gE x y=0\/gE x y=1:=by
 unfold gE
 split
 ·exact .inr rfl
 ·exact .inl rfl
structure SlOk(M N:Mach):Prop where
 p:Parts 1 64 M
 q:Parts 1 64 N
 hb:2<=bs M/\bs M<=5
 hl:ltr M=ltr N
 n:M.rows.length*N.rows.length<=100
def Sa(M N:Mach)(a c:OkS)(ns:List OkS)(L:Mach):Prop:=OnceN [a,c] ns/\∃ A B,LsO M A/\LsO N B/\Ys (thQ (bs M) ns [a] [c] A B (Xu A.rows.length B.rows.length)) (sgP gE A B) L
def MM(cs:List AV):Prop:=∃ (M:Mach) (a:OkS) (N:Mach) (c:OkS),cs=[.d (dM M),.d (dS a),.d (dM N),.d (dS c)]/\SlOk M N
def MN(cs:List AV)(r:AV):Prop:=∃ (M:Mach) (a:OkS) (N:Mach) (c:OkS) (ns:List OkS) (L:Mach),cs=[.d (dM M),.d (dS a),.d (dM N),.d (dS c)]/\Sa M N a c ns L/\r=.d (Zr (bs M) ns L)
variable{a:OkS}
theorem DC{g f:Mach}{a' b:OkS}(e:[AV.d (dM M),.d (dS a),.d (dM N),.d (dS c)]=[AV.d (dM g),.d (dS a'),.d (dM f),.d (dS b)]):M=g/\a=a'/\N=f/\c=b:=by
 simp only[List.cons.injEq,AV.d.injEq,and_true] at e
 exact⟨VW e.1,Subtype.ext (PyData.str.inj e.2.1),VW e.2.2.1,Subtype.ext (PyData.str.inj e.2.2.2)⟩
theorem SlOk.pr{A B:Mach}(h:SlOk M N)(j:LsO M A)(i:LsO N B):PrOk (bs M) [a] [c] A B gE (Xu A.rows.length B.rows.length):=by
 have n:=j.le
 have m:=i.le
 have g:=h.hb
 obtain⟨s,v,q,f,rfl⟩:=j
 obtain⟨R2,u,p,b,rfl⟩:=i
 refine PrOk.of g (by show 1<=4;decide) (by show 1<=4;decide) (λns o=>?_) f.parts b.parts ?_ ?_ (Nat.le_trans (Nat.mul_le_mul n m) h.n) λx _ y _=>by rcases ML x y with e|e<;>rw[e]<;>decide
 ·have r:ns.length<=2:=Mk o
  refine⟨by omega,?_⟩
  obtain e|e|e:ns.length=0\/ns.length=1\/ns.length=2:=by omega
  ·rw[e,pw0];decide
  ·rw[e,pw1];omega
  ·rw[e,Int.pow_succ,pw1]
   have:bs M*bs M<=5*5:=Int.mul_le_mul g.2 g.2 (by omega) (by decide)
   omega
 ·rw[f.lt];exact (pw1 _).symm
 ·rw[b.lt,<- h.hl];exact (pw1 _).symm
theorem MO(T:Txt K mg)(B:base.BuiltinsAt mg mainGlobals)(n:∀ p∈ts0,p∈Tabs.ts):Cal P w K mg base CX0 10 "signs_like" ["row", "name", "other", "second"] [] (spR K MM MN NP):=by
 obtain⟨Y,S⟩:=T.x_signs_like
 have c_base_of:Cal P w K mg base _ _ _ _ _ _:=MG T
 have c_want_like:Cal P w K mg base _ _ _ _ _ _:=DA T
 have c_as_sign:Cal P w K mg base _ _ _ _ _ _:=T9 T
 have c_least:Cal P w K mg base _ _ _ _ _ _:=QM T B n
 have c_paired:Cal P w K mg base _ _ _ _ _ _:=Mr T B n
 refine Ty (k:=9) S TH (λcs ⟨_,_,_,_,e,_⟩=>by rw[e];rfl) (λf A j s H E g=>?_)
 refine⟨_,(Ze (Zp (i:=4) TH.nd rfl (Or.inl rfl) (Zg (c_base_of.mono (by decide)) g rfl pass0 (Za (pv 0) Zb)))
   (Ze (Yh (Zg (c_base_of.mono (by decide)) g rfl pass0 (Za (pv 2) Zb)))
   (Ze (Yh (Zg (c_want_like.mono (by decide)) g rfl pass0 (Za (pv 0) (Za (pv 2) Zb))))
   (Ze (Xp (name := "sign") (qual := "signs_like.<locals>.sign") (params:=ZP WE) (body:=Zv WE) (scope:=Zd WE) (P:=Vi) (i:=5) TH.nd rfl (Or.inl rfl) rfl rfl rfl rfl rfl S.tab Fz B)
   (Zh (Zq (W9 (c_paired.mono (by decide)) g rfl (W8 (E:=E0)) (Za (pv 4) (Za (Zg (c_least.mono (by decide)) g rfl pass0 (Za (pv 0) Zb)) (Za (Yd (Za (pv 1) Zb)) (Za (Zg (c_least.mono (by decide)) g rfl pass0 (Za (pv 2) Zb)) (Za (Yd (Za (pv 3) Zb)) (Za (pv 5) Zb))))))))))))),?_⟩
 rintro cs ⟨M,a,N,c,rfl,hS⟩
 show Sv K _ _ _ [some (.d (dM M)),some (.d (dS a)),some (.d (dM N)),some (.d (dS c)),none,none] _
 have O:=hS.hb
 have C:2<=bs N/\bs N<=5:=by rw[show bs N=bs M by show ((ltr N:Nat):Int)=(ltr M:Nat);rw[hS.hl]];exact O
 o_law
 refine QU hS.p.mok O ?_
 o_law
 refine QU hS.q.mok C ?_
 o_law
 refine DB hS.p.mok hS.q.mok hS.hl ?_
 o_law
 refine Xq (n (Vi,Nx) (by simp[ts0])) (by decide +kernel) (by show 5<6;decide) ?_
 show Sv K _ _ _ [some (.d (dM M)),some (.d (dS a)),some (.d (dM N)),some (.d (dS c)),some (.d (.int (bs M))),some (.obj _)] _
 o_law
 refine Vc ?_
 o_law
 refine TQ hS.p λu r G J=>?_
 o_law
 refine Yg ?_
 o_law
 refine⟨[.d (dS a)],.cons rfl .nil,by show 1<=1000;decide,?_⟩
 o_law
 refine TQ hS.q λR2 q F I=>?_
 o_law
 refine Yg ?_
 o_law
 refine⟨[.d (dS c)],.cons rfl .nil,by show 1<=1000;decide,?_⟩
 o_law
 have R:LsO M (Zi M u r):=⟨u,r,G,J,rfl⟩
 have Q:LsO N (Zi N R2 q):=⟨R2,q,F,I,rfl⟩
 refine⟨⟨bs M,[a],[c],Zi M u r,Zi N R2 q,gE,Xu (Zi M u r).rows.length (Zi N R2 q).rows.length⟩,[.d (.int (bs M)),.d (dM (Zi M u r)),.d (.tuple [dS a]),.d (dM (Zi N R2 q)),.d (.tuple [dS c]),.obj (CloOk P w K mg base CX0 2 (spR K XF (XG gE) NP))],
  .cons (.d NR.av rfl) (.cons (.d NR.av rfl) (.cons (.d NR.av rfl) (.cons (.d NR.av rfl) (.cons (.d NR.av rfl) (.cons (.o (λv r q m h=>h.same m) λH0 X ts as H1 Z v s L U=>?sign) .nil))))),⟨hS.pr R Q,rfl⟩,λd ⟨ns,L,ho,hL,ec⟩=>?_⟩
 case sign =>
  refine Xr (k:=1) Fx Fy TH.nofree (λ_=>rfl) (λ_ _ _ _ _ s us W=>by obtain⟨a,b,rfl⟩:=len2 W;exact .of_eq rfl) (λcs ⟨x,l,e⟩=>by rw[e];rfl) (λcs ⟨x,l,e⟩=>by rw[e];rfl) U L s λcl f c A j s H E g=>?_
  refine⟨_,(Zh (Zq (Zg (c_as_sign.mono (by decide)) g rfl pass0 (Za (Vu (Yu (K:=K) rfl g.units) (pv 0) (pv 1) (nomark _)) Zb)))),?_⟩
  rintro cs ⟨x,y,rfl⟩
  show Sv K _ _ _ [some (.d (.int x)),some (.d (.int y))] _
  w_on
  refine ZV (by walk_at "nrs") ⟨_,rfl,rfl⟩ (Got.own rfl) ?_
  exact⟨_,Zt rfl,x,y,rfl,rfl⟩
 subst ec
 refine⟨rfl,_,Got.own (YT _ _ _),?_⟩
 exact⟨_,Zt rfl,M,a,N,c,ns,L,rfl,⟨ho,_,_,R,Q,hL⟩,rfl⟩
theorem wC1(hb:2<=b/\b<=5)(h:XH b cs):Dgb b (wC b [a] cs):=by
 have:=V2 (ns:=[a]) hb h
 rwa [length_singleton,pw1] at this
theorem DD{L:Mach}(b:SlOk M N)(h:Sa M N a c ns L):Mn (bs M) ns L (λcs=>sgw M (wC (bs M) [a] cs)=sgw N (wC (bs M) [c] cs))/\(∀ x,x∈ns↔x=a\/x=c):=by
 obtain⟨o,A,B,q,n,r⟩:=h
 have pr:=b.pr (a:=a) (c:=c) q n
 obtain⟨u,_,s⟩:=Mz pr (by exact o) (λp=>ML _ _) r
 refine⟨⟨u,λcs f=>?_⟩,λx=>(o.m x).trans (by simp)⟩
 obtain⟨v,y,i,m,rfl⟩:=q
 obtain⟨R2,w,g,j,rfl⟩:=n
 rw[s cs f,VZ i m (wC1 b.hb f),VZ g j (by rw[show bs N=bs M by show ((ltr N:Nat):Int)=(ltr M:Nat);rw[b.hl]];exact wC1 b.hb f)]
 unfold gE
 by_cases e:sgw M (wC (bs M) [a] cs)=sgw N (wC (bs M) [c] cs)
 ·simp[e]
 ·simp[e]
theorem once1(c:OkS):OnceN [c] [c]:=⟨rfl,by simp,λ_=>.rfl⟩
theorem DE(a:Parts 1 64 M)(hb:2<=bs M/\bs M<=5)(h:XI M s N):Mn (bs M) [nm] N (λcs=>sgw M (wC (bs M) [nm] cs)=s)/\N.rows.length<=M.rows.length:=by
 obtain⟨g,f,c⟩:=h.l
 refine⟨⟨⟨hb,once1 nm,⟨by show 1<=4;decide,by rw[length_singleton,pw1];omega⟩,c,by rw[f];exact (pw1 _).symm,g,h.sgs a⟩,λcs i=>?_⟩,?_⟩
 ·rw[h.wd a (wC1 hb i)]
  by_cases e:sgw M (wC (bs M) [nm] cs)=s
  ·simp[e]
  ·simp[e]
 ·obtain⟨R,G,_,b,rfl⟩:=h
  rw[b.len]
  exact b.le
def cntD[DecidableEq α](xs:List α)(c:α):Nat:=xs.count c
def wt(l r:List OkS)(c:OkS):Int:=(cntD r c:Int)-(cntD l c:Int)
def Yt(ns:List OkS)(col:List Int)(l r:List OkS):List Int:=List.zipWith (λc d=>d*wt l r c) ns col
theorem range_getD(xs:List Int):(List.range xs.length).map (λk=>xs.getD k 0)=xs:=by
 refine ext_getElem (by simp) λi b a=>?_
 rw[getElem_map,getElem_range,getD_eq_getElem?_getD,getElem?_eq_getElem a]
 rfl
def DF(ds:List PyData)(c:AV):Prop:=∃ (ns:List OkS) (col:List Int) (l r:List OkS),ds=[.tuple (ns.map dS),tI col,.list (l.map dS),.list (r.map dS)]/\(ns.length=col.length/\ns.length<=8/\l.length<=8/\r.length<=8)/\(∀ x∈col,0<=x/\x<5)/\c=.d (.int (Yt ns col l r).sum)
theorem DG(T:Txt K mg):Cal P w K mg base CX0 1 "gain_of" ["names", "column", "left", "right"] [] (spV K DF NX):=by
 refine val T.x_gain_of FD (λds c ⟨_,_,_,_,e,_⟩=>by rw[e];rfl) (λf v A a s H E g=>?_) [] (by simp)
 refine⟨_,(Zh (Zq (ZA (GR (K:=K) rfl rfl) rfl T.n_sum PyProof.Rows.boot_sum (Za (Y1 (N:=["name", "figure", "right", "left"]) (cap:=[none,none,some 3,some 2]) rfl rfl rfl (by kernel_rfl) (Gj (K:=K) rfl rfl T.n_zip (Za (pv 0) (Za (pv 1) Zb))) (λ_ _ _ _=>(U6 (K:=K) (n:=2) rfl rfl (Xk (ZI (i:=0) (show (["name", "figure", "right", "left"]:List Str).Nodup from by decide +kernel) rfl (Or.inl rfl)) (Xk (ZI (i:=1) (show (["name", "figure", "right", "left"]:List Str).Nodup from by decide +kernel) rfl (Or.inl rfl)) Ua)))) (λ_ _ _ _=>YO) (λ_ _ _ _=>(Zl XA (pv 1) (Zl Ue (Y4 (K:=K) rfl PySem.F.plainAttrs_list PySem.F.slot_list_count PySem.F.type_list_count (OV (K:=K) rfl g.units) (pv 2) (Za (pv 0) Zb)) (Y4 (K:=K) rfl PySem.F.plainAttrs_list PySem.F.slot_list_count PySem.F.type_list_count (OV (K:=K) rfl g.units) (pv 3) (Za (pv 0) Zb)))))) Zb)))),?_⟩
 rintro ds c ⟨ns,col,l,r,rfl,⟨h1,h2,h3,h4⟩,hc,rfl⟩
 show Sv K _ _ _ [some (.d (.tuple (ns.map dS))),some (.d (tI col)),some (.d (.list (l.map dS))),some (.d (.list (r.map dS)))] _
 have m:(Yt ns col l r).length=ns.length:=by unfold Yt;rw[List.length_zipWith];omega
 w_on
 refine Gk (α:=OkS) ?_
 w_on
 refine⟨_,_,ns,dS,col,λk=>.d (.int ((Yt ns col l r).getD k 0)),rfl,rfl,rfl,NR.av,NR.av,h1,by omega,λi x p=>?_,_,Got.own (YR λ_=>rfl),?_⟩
 ·have u:(Yt ns col l r).getD i 0=col[i] * wt l r ns[i]:=by
   have j:i<(List.zipWith (λc d=>d*wt l r c) ns col).length:=by rw[List.length_zipWith];omega
   unfold Yt
   rw[getD_eq_getElem?_getD,getElem?_eq_getElem j,List.getElem_zipWith]
   rfl
  have q:=hc _ (getElem_mem p)
  show Gv K _ _ [none,none,some (.d (.list (r.map dS))),some (.d (.list (l.map dS)))] _
  refine Tp ?_
  w_on
  refine⟨λK h b ts as H s=>Y7 K h b ts as H (wk_1 K h b ts as H s),?_⟩
  w_on
  refine OX (α:=OkS) Enc.str ?_
  w_on
  refine⟨r,rfl,NR.av,by omega,?_⟩
  w_on
  refine⟨ns[i],rfl,NR.av,?_⟩
  refine OX (α:=OkS) Enc.str ?_
  w_on
  refine⟨l,rfl,NR.av,by omega,?_⟩
  w_on
  refine⟨ns[i],rfl,NR.av,?_⟩
  w_on
  show some (AV.d (.int (col[i] * wt l r ns[i])))=some (AV.d (.int ((Yt ns col l r).getD i 0)))
  rw[u]
 w_on
 refine GT (ns:=Yt ns col l r) (by
  rw[TV.data,AV.data,Yq]
  have e:=congrArg (List.map PyData.int) (range_getD (Yt ns col l r))
  rw[m,map_map] at e
  exact congrArg PyData.list e) ?_
 exact Zt rfl
def clB(B x:Int):Int:=if (if x<B then x else B) > -B then (if x<B then x else B) else -B
def bnd(l r:List OkS):Int:=max (max (l.length:Int) (r.length:Int)) 1
def gns(b:Int)(ns l r:List OkS)(k:Int):Int:=(Yt ns (YS b ns.length k) l r).sum
def stS(b:Int)(ns l r:List OkS)(x:Int)(k:Nat):Int:=clB (bnd l r) (b*x+gns b ns l r k)
def UB(B:Int):List Int:=(List.range (2*B+1).toNat).map λ(k:Nat)=>(k:Int)-B
def thS(b:Int)(ns l r:List OkS):Th Int:=⟨0,(b ^ ns.length).toNat,2*bnd l r+1,stS b ns l r,UB (bnd l r)⟩
def sgS(q:Bool)(x:Int):Int:=if (if q=true then decide (x=0) else decide (0<x))=true then 1 else 0
theorem MP(q:Bool)(x:Int):sgS q x=0\/sgS q x=1:=by
 unfold sgS
 by_cases h:(if q=true then decide (x=0) else decide (0<x))=true
 ·exact .inr (if_pos h)
 ·exact .inl (if_neg h)
variable{B:Int}
theorem QW(b:0<=B):x∈UB B↔-B<=x/\x<=B:=by
 unfold UB
 rw[mem_map]
 constructor
 ·rintro⟨k,a,rfl⟩
  have:=mem_range.mp a
  omega
 ·intro h
  exact⟨(x+B).toNat,mem_range.mpr (by omega),by omega⟩
theorem MQ(B:Int):(UB B).length=(2*B+1).toNat:=by unfold UB;rw[length_map,length_range]
theorem MR(a:0<=B):-B<=clB B x/\clB B x<=B:=by
 unfold clB
 by_cases h:x<B
 ·rw[if_pos h]
  by_cases g:x > -B
  ·rw[if_pos g];omega
  ·rw[if_neg g];omega
 ·rw[if_neg h]
  by_cases g:B > -B
  ·rw[if_pos g];omega
  ·rw[if_neg g];omega
variable{r:List OkS}
theorem MS{l:List OkS}(h1:l.length<=3)(h2:r.length<=3):1<=bnd l r/\bnd l r<=3:=by unfold bnd;omega
def wdS(q:Bool):Str:=if q=true then "=" else "<"
def MT(cs:List AV):Prop:=∃ (b:Int) (l r:List OkS) (q:Bool),cs=[.d (.int b),.d (.list (l.map dS)),.d (.list (r.map dS)),.d (.str (wdS q))]/\l.length<=3/\r.length<=3/\(2<=b/\b<=5)/\∀ ns,OnceN (l++r) ns->Nrw b ns
def MU(cs:List AV)(c:AV):Prop:=∃ (b:Int) (l r:List OkS) (q:Bool) (ns:List OkS) (N:Mach),cs=[.d (.int b),.d (.list (l.map dS)),.d (.list (r.map dS)),.d (.str (wdS q))]/\OnceN (l++r) ns/\Ys (thS b ns l r) (sgS q) N/\c=.d (Zr b ns N)
theorem DH{l:List OkS}(hb:2<=b/\b<=5)(hw:Nrw b ns)(h1:l.length<=3)(h2:r.length<=3):(thS b ns l r).Ok:=by
 have g:=MS h1 h2
 have e:=Xh hb ns.length
 have a:=hw.2
 have f:=MQ (bnd l r)
 refine⟨(QW (by omega)).mpr ⟨by show -bnd l r<=0;omega,by show 0<=bnd l r;omega⟩,λx c k _=>(QW (by omega)).mpr (MR (by omega)),?_,?_,?_⟩
 ·show ((UB (bnd l r)).length:Int)<=2*bnd l r+1;omega
 ·show (b ^ ns.length).toNat<=1000;omega
 ·show (UB (bnd l r)).length<=1000;omega
theorem MV(T:Txt K mg)(B:base.BuiltinsAt mg mainGlobals)(y:∀ p∈ts0,p∈Tabs.ts):Cal P w K mg base CX0 9 "sums" ["base", "left", "right", "word"] [] (spR K MT MU NP):=by
 obtain⟨c0,O⟩:=T.x_sums
 have c_want_base:Cal P w K mg base _ _ _ _ _ _:=TR T
 have c_rising:Cal P w K mg base _ _ _ _ _ _:=Dk T
 have c_want_width:Cal P w K mg base _ _ _ _ _ _:=Mq T
 have c_letters_for:Cal P w K mg base _ _ _ _ _ _:=TW T
 have c_column_of:Cal P w K mg base _ _ _ _ _ _:=Me T [] (by simp)
 have c_gain_of:Cal P w K mg base _ _ _ _ _ _:=DG T
 have c_as_sign:Cal P w K mg base _ _ _ _ _ _:=T9 T
 have c_least_met:Cal P w K mg base _ _ _ _ _ _:=QO T B y KEnc.int (λa b e=>PyData.int.inj e) λx=>rfl
 refine Ty (k:=8) O X0 (λcs ⟨_,_,_,_,e,_⟩=>by rw[e];rfl) (λf A j s H E g=>?_)
 refine⟨_,(Ze (Yh (Zg (c_want_base.mono (by decide)) g rfl pass0 (Za (pv 0) Zb)))
   (Ze (Zp (i:=4) X0.nd rfl (Or.inr rfl) (Zg (c_rising.mono (by decide)) g rfl pass0 (Za (Zl (Z8 (K:=K) rfl) (pv 1) (pv 2)) Zb)))
   (Ze (Yh (Zg (c_want_width.mono (by decide)) g rfl pass0 (Za (pv 0) (Za (pv 4) Zb))))
   (Ze (Zp (i:=5) X0.nd rfl (Or.inl rfl) (Zg (c_letters_for.mono (by decide)) g rfl pass0 (Za (pv 0) (Za (pv 4) Zb))))
   (Ze (Zp (i:=6) X0.nd rfl (Or.inr rfl) (Y1 (N:=["code", "names", "base", "left", "right"]) (cap:=[none,some 4,some 0,some 1,some 2]) rfl rfl rfl (by kernel_rfl) (XM rfl T.n_range (Za (pv 5) Zb)) (λ_ _ _ _=>(ZI (i:=0) (show (["code", "names", "base", "left", "right"]:List Str).Nodup from by decide +kernel) rfl (Or.inl rfl))) (λ_ _ _ _=>YO) (λ_ _ _ _=>(Zg (c_gain_of.mono (by decide)) g rfl pass0 (Za (pv 1) (Za (Zg (c_column_of.mono (by decide)) g rfl pass0 (Za (pv 0) (Za (ZA (ZS (K:=K) rfl) rfl T.n_len PySem.boot_len (Za (pv 1) Zb)) (Za (pv 2) Zb)))) (Za (pv 3) (Za (pv 4) Zb))))))))
   (Ze (Zp (i:=7) X0.nd rfl (Or.inr rfl) (ZA (GS rfl) rfl T.n_max PyProof.Rows.boot_max (Za (ZA (ZS (K:=K) rfl) rfl T.n_len PySem.boot_len (Za (pv 1) Zb)) (Za (ZA (ZS (K:=K) rfl) rfl T.n_len PySem.boot_len (Za (pv 2) Zb)) (Za Zc Zb)))))
   (Ze (Xp (name := "lead") (qual := "sums.<locals>.lead") (params:=ZP WF) (body:=Zv WF) (scope:=Zd WF) (P:=X4) (i:=8) X0.nd rfl (Or.inl rfl) rfl rfl rfl rfl rfl O.tab FG B)
   (Ze (Xp (name := "sign") (qual := "sums.<locals>.sign") (params:=ZP WG) (body:=Zv WG) (scope:=Zd WG) (P:=X4) (i:=9) X0.nd rfl (Or.inl rfl) rfl rfl rfl rfl rfl O.tab FJ B)
   (Zh (Zq (Yd (Za (pv 0) (Za (pv 4) (Za (W9 (c_least_met.mono (by decide)) g rfl (W8 (E:=E0)) (Za Zc (Za (pv 5) (Za (pv 8) (Za (pv 9) (Za (Zl (Z8 (K:=K) rfl) (Zl XA Zc (pv 7)) Zc) Zb)))))) Zb)))))))))))))),?_⟩
 rintro cs ⟨b,l,r,q,rfl,h1,h2,hb,hW⟩
 show Sv K _ _ _ [some (.d (.int b)),some (.d (.list (l.map dS))),some (.d (.list (r.map dS))),some (.d (.str (wdS q))),none,none,none,none,none,none] _
 o_law
 refine TU hb ?_
 o_law
 refine Rk (ds:=l.map dS) (es:=r.map dS) rfl rfl (Kp.flat (X9 l)) (Kp.flat (X9 r)) (by rw[length_map,length_map];omega) ?_
 rw[<- map_append]
 o_law
 refine Dl (xs:=l++r) NR.av (by simp only[TV.data,Wj,map_map];exact congrArg PyData.list (map_congr_left λ_ _=>rfl)) (by rw[List.length_append];omega) λns o=>?_
 have Y:ns.length<=6:=by have:=Mk o;rw[List.length_append] at this;omega
 have F:=hW ns o
 o_law
 refine ZV (by walk_at "nrs") ⟨b,ns,rfl,hb,F.1,F.2,rfl⟩ (Got.own rfl) ?_
 have W:=F.1
 have U:=F.2
 have X:=Xh hb ns.length
 o_law
 refine ZV (by walk_at "nrs") ⟨b,ns,rfl,hb,by omega,rfl⟩ (Got.own rfl) ?_
 o_law
 refine II ?_
 o_law
 refine⟨_,λk=>.d (.int (gns b ns l r k)),rfl,⟨by omega,by omega⟩,λi hi=>?_,_,Got.own (YR λ_=>rfl),?_⟩
 ·have u:0<=(i:Int)/\(i:Int)<b ^ ns.length:=by omega
  have I:=T3 (n:=ns.length) hb u
  show Gv K _ _ [none,some (.d (.tuple (ns.map dS))),some (.d (.int b)),some (.d (.list (l.map dS))),some (.d (.list (r.map dS)))] _
  o_law
  refine⟨Y7,?_⟩
  o_law
  refine W3 rfl ?_
  rw[length_map]
  o_law
  refine ZV (by walk_at "nrs") ⟨(i:Int),ns.length,b,rfl,hb,u.1,Nat.lt_of_lt_of_le (show (i:Int).toNat<2 ^ 7 by omega) (Nat.pow_le_pow_right (by decide) (by decide)),by omega,rfl⟩ (Got.own (UC _)) ?_
  rw[show pad ns.length (figs b (i:Int))=YS b ns.length i from rfl]
  o_law
  exact ZV (by walk_at "nrs") ⟨ns,YS b ns.length i,l,r,rfl,⟨I.1.symm,by omega,by omega,by omega⟩,λx C=>by have:=I.2 x C;omega,rfl⟩ (Got.own rfl) rfl
 refine VN (x:=dI ((List.range (b ^ ns.length).toNat).map λ(k:Nat)=>gns b ns l r k)) (by rw[AV.data,Yq,dI,map_map];rfl) ?_
 o_law
 refine Z9 rfl ?_
 rw[length_map]
 o_law
 refine Z9 rfl ?_
 rw[length_map]
 o_law
 refine GU ?_
 rw[show max (max (l.length:Int) (r.length:Int)) 1=bnd l r from rfl]
 have hB:=MS h1 h2
 have ok:=DH (ns:=ns) hb F h1 h2
 have Q:∀ {k:Nat},(k:Int)<b ^ ns.length->atI (((List.range (b ^ ns.length).toNat).map λ(k:Nat)=>gns b ns l r k).map PyData.int) (k:Int)=some (.int (gns b ns l r k)):=λ{k} z=>by
  have S:k<(b ^ ns.length).toNat:=by omega
  rw[VU (by omega) (by rw[length_map,length_range];omega),Int.toNat_natCast,getD_eq_getElem?_getD,getElem?_map,getElem?_range S]
  rfl
 generalize hG:((List.range (b ^ ns.length).toNat).map λ(k:Nat)=>gns b ns l r k)=G at Q
 o_law
 refine Xq (y (X4,Qy) (by simp[ts0])) (by decide +kernel) (by show 8<10;decide) ?_
 o_law
 refine Xq (y (X4,Qy) (by simp[ts0])) (by decide +kernel) (by show 9<10;decide) ?_
 show Sv K _ _ _ [some (.d (.int b)),some (.d (.list (l.map dS))),some (.d (.list (r.map dS))),some (.d (.str (wdS q))),some (.d (.tuple (ns.map dS))),some (.d (.int (b ^ ns.length))),some (.d (dI G)),some (.d (.int (bnd l r))),some (.obj _),some (.obj _)] _
 o_law
 refine Yg ?_
 o_law
 refine Vc ?_
 o_law
 have Z:b ^ ns.length=(((b ^ ns.length).toNat:Nat):Int):=by omega
 refine⟨(thS b ns l r,sgS q),[.d (.int 0),.d (.int (b ^ ns.length)),.obj (CloOk P w K mg base CX0 3 (spR K (YG PyData.int (thS b ns l r)) (YH PyData.int (thS b ns l r)) NP)),.obj (CloOk P w K mg base CX0 3 (spR K (X7 PyData.int (thS b ns l r)) (X8 PyData.int (sgS q)) NP)),.d (.int (2*bnd l r+1))],
  .cons (.d NR.av rfl) (.cons (.d NR.av rfl) (.cons (.o (λv G1 G2 m h=>h.same m) λH0 R ts as H1 H2 v s L J=>?lead) (.cons (.o (λv G1 G2 m h=>h.same m) λH0 R ts as H1 H2 v s L J=>?sign) (.cons (.d NR.av rfl) .nil)))),⟨⟨ok,by rw[Z];rfl⟩,⟨by show 1<=(b ^ ns.length).toNat;omega,by show (b ^ ns.length).toNat<=64;omega,by show (UB _).length<=100;rw[MQ];omega,λp X=>by show 0<=sgS q p/\sgS q p<=9;rcases MP q p with e|e<;>rw[e]<;>decide⟩⟩,λd ⟨N,hN,ec⟩=>?_⟩
 case lead =>
  refine Xr (k:=2) FE FF X0.nofree (λ_=>rfl) (λ_ _ _ _ _ s us M=>by obtain⟨a,b,rfl⟩:=len2 M;exact .of_eq rfl) (λcs ⟨x,l,e,_⟩=>by rw[e];rfl) (λcs ⟨x,l,e,_⟩=>by rw[e];rfl) J L s λcl f c A j s H E g=>?_
  refine⟨_,(Zh (Zq (ZA (Pg rfl) rfl T.n_max PyProof.Rows.boot_max (Za (LM LP (pv 2)) (Za (ZA (Ph rfl) rfl T.n_min PyProof.Rows.boot_min (Za (pv 2) (Za (Zl (Z8 (K:=K) rfl) (Zl XA (pv 3) (pv 0)) (Zj (Zk (K:=K) rfl g.units) (pv 4) (pv 1) (λ_ _=>rfl))) Zb))) Zb))))),?_⟩
  rintro cs ⟨x,k,rfl,C,u⟩
  have C:=(QW (by omega)).mp (show x∈UB (bnd l r) from C)
  have u:k<(b ^ ns.length).toNat:=u
  have u:(k:Int)<b ^ ns.length:=by omega
  show Sv K _ _ _ [some (.d (.int x)),some (.d (.int k)),some (.d (.int (bnd l r))),some (.d (.int b)),some (.d (dI G))] _
  o_law
  refine ZL rfl (Q u) (Zs.flat rfl) ?_
  o_law
  refine OS ?_
  o_law
  refine OW ?_
  exact⟨_,Zt rfl,x,k,rfl,rfl⟩
 case sign =>
  refine Xr (k:=2) FH FI X0.nofree (λ_=>rfl) (λ_ _ _ _ _ s us M=>by obtain⟨a,rfl⟩:=len1 M;exact .of_eq rfl) (λcs ⟨x,e,_⟩=>by rw[e];rfl) (λcs ⟨x,e,_⟩=>by rw[e];rfl) J L s λcl f c A j s H E g=>?_
  refine⟨_,(Zh (Zq (Zg (c_as_sign.mono (by decide)) g rfl pass0 (Za (Q9 (Zw (Yu (K:=K) rfl g.units) (pv 1) Z6 (nomark _)) (Vu (Yu (K:=K) rfl g.units) (pv 0) Zc (nomark _)) (Vu XN (pv 0) Zc (nomark _))) Zb)))),?_⟩
  rintro cs ⟨x,rfl,C⟩
  show Sv K _ _ _ [some (.d (.int x)),some (.d (.str (wdS q)))] _
  o_law
  cases q with
  | true =>
   refine Y8 (f:=dS) (c:=⟨"=",by decide +kernel⟩) (d:=⟨"=",by decide +kernel⟩) Enc.str rfl rfl ?_
   refine⟨true,by simp,?_⟩
   w_on
   refine ZV (by walk_at "nrs") ⟨_,rfl,rfl⟩ (Got.own rfl) ?_
   exact⟨_,Zt rfl,x,rfl,rfl⟩
  | false =>
   refine Y8 (f:=dS) (c:=⟨"<",by decide +kernel⟩) (d:=⟨"=",by decide +kernel⟩) Enc.str rfl rfl ?_
   refine⟨false,by rw[decide_eq_false (λe=>absurd (congrArg Subtype.val e) (by decide +kernel))],?_⟩
   w_on
   refine ZV (by walk_at "nrs") ⟨_,rfl,rfl⟩ (Got.own rfl) ?_
   exact⟨_,Zt rfl,x,rfl,rfl⟩
 subst ec
 refine⟨rfl,_,Got.own (YC _),?_⟩
 o_law
 exact⟨[.d (.int b),.d (.tuple (ns.map dS)),.d (dM N)],.cons rfl (.cons rfl (.cons rfl .nil)),by show 3<=1000;decide,_,Zt rfl,b,l,r,q,ns,N,rfl,o,hN,rfl⟩
theorem Sb{α:Type}(f g:α->Int):∀ xs:List α,(xs.map λc=>f c+g c).sum=(xs.map f).sum+(xs.map g).sum
 | []=>rfl
 | x::xs=>by simp only[map_cons,sum_cons,Sb f g xs];omega
theorem UF{α:Type}(b:Int)(f:α->Int):∀ xs:List α,(xs.map λc=>b*f c).sum=b*(xs.map f).sum
 | []=>by simp
 | x::xs=>by simp only[map_cons,sum_cons,UF b f xs,Int.mul_add]
theorem DI[DecidableEq α](x:α)(r:List α)(c:α):(cntD (x::r) c:Int)=cntD r c+(if x=c then 1 else 0):=by
 unfold cntD
 rw[List.count_cons]
 by_cases e:x=c
 ·subst e;simp
 ·simp[e]
theorem MW{α:Type}[DecidableEq α](f:α->Int)(x:α):∀ {ns:List α},ns.Nodup->x∈ns->(ns.map λc=>(if x=c then 1 else 0)*f c).sum=f x
 | y::ns,nd,h=>by
  obtain⟨b,a⟩:=nodup_cons.mp nd
  simp only[map_cons,sum_cons]
  by_cases e:x=y
  ·subst e
   have:(ns.map λc=>(if x=c then 1 else 0)*f c).sum=0:=by
    have g:(ns.map λc=>(if x=c then 1 else 0)*f c)=ns.map λ_=>(0:Int):=map_congr_left λc m=>by rw[if_neg (show ¬ x=c from λe=>b (e▸m)),Int.zero_mul]
    rw[g]
    clear g b a nd h
    induction ns with
    | nil=>rfl
    | cons _ _ i=>simp only[map_cons,sum_cons,i];rfl
   rw[this,if_pos rfl]
   omega
  ·have j:x∈ns:=(mem_cons.mp h).resolve_left e
   rw[MW f x a j,if_neg e]
   omega
theorem Sd{α:Type}[DecidableEq α](f:α->Int){ns:List α}(nd:ns.Nodup):∀ {r:List α},(∀ x∈r,x∈ns)->(ns.map λc=>(cntD r c:Int)*f c).sum=(r.map f).sum
 | [],_=>by
  have a:(ns.map λc=>(cntD ([]:List α) c:Int)*f c)=ns.map λc=>0*f c:=map_congr_left λc _=>by simp[cntD]
  rw[a,UF,Int.zero_mul]
  rfl
 | x::r,h=>by
  have e:=Sd f nd λy b=>h y (mem_cons_of_mem _ b)
  have a:(ns.map λc=>(cntD (x::r) c:Int)*f c)=ns.map λc=>(cntD r c:Int)*f c+(if x=c then 1 else 0)*f c:=map_congr_left λc _=>by rw[DI,Int.add_mul]
  rw[a,Sb,e,MW f x nd (h x (.head _)),map_cons,sum_cons]
  omega
theorem MX{α:Type}:∀ r:List α,(r.map λ_=>(1:Int)).sum=r.length
 | []=>rfl
 | x::r=>by simp only[map_cons,sum_cons,MX r,length_cons];omega
variable{q:Bool}
section
variable{l:List OkS}
theorem DJ(f:OkS->Int):(Yt ns (ns.map f) l r)=ns.map λc=>f c*wt l r c:=by
 unfold Yt
 rw[List.zipWith_map_right,List.zipWith_self]
theorem MY(hb:2<=b/\b<=5)(o:OnceN (l++r) ns)(B:0<=k/\k<b ^ ns.length):-((b-1)*(l.length:Int))<=gns b ns l r k/\gns b ns l r k<=(b-1)*(r.length:Int):=by
 obtain⟨E,C⟩:=T3 (n:=ns.length) hb B
 have g:∀ s:List OkS,(∀ x∈s,x∈ns)->(ns.map λc=>(cntD s c:Int)).sum=s.length:=λs y=>by
  have:=Sd (λ_=>(1:Int)) o.d y
  rw[MX] at this
  simpa using this
 have i:=g l λx h=>(o.m x).mpr (mem_append_left _ h)
 have A:=g r λx h=>(o.m x).mpr (mem_append_right _ h)
 have j:∀ (f:List OkS) (a:List Int),f.length=a.length->(∀ x∈a,0<=x/\x<b)->-((b-1)*(f.map λc=>(cntD l c:Int)).sum)<=(Yt f a l r).sum/\(Yt f a l r).sum<=(b-1)*(f.map λc=>(cntD r c:Int)).sum:=by
  intro f
  induction f with
  | nil=>intro a _ _;unfold Yt;simp
  | cons m f w =>
   intro a i v
   cases a with
   | nil=>simp at i
   | cons d a =>
    obtain⟨G,F⟩:=w a (by simpa using i) λx h=>v x (mem_cons_of_mem _ h)
    have u:=v d (.head _)
    have e:Yt (m::f) (d::a) l r=d*wt l r m::Yt f a l r:=rfl
    rw[e]
    simp only[map_cons,sum_cons,Int.mul_add]
    unfold wt
    rw[Int.mul_sub]
    have K:d*(cntD r m:Int)<=(b-1)*(cntD r m:Int):=Int.mul_le_mul_of_nonneg_right (by omega) (by omega)
    have J:d*(cntD l m:Int)<=(b-1)*(cntD l m:Int):=Int.mul_le_mul_of_nonneg_right (by omega) (by omega)
    have I:0<=d*(cntD r m:Int):=Int.mul_nonneg u.1 (by omega)
    have H:0<=d*(cntD l m:Int):=Int.mul_nonneg u.1 (by omega)
    omega
 obtain⟨q,p⟩:=j ns _ E.symm C
 rw[i] at q
 rw[A] at p
 exact⟨q,p⟩
theorem DK(hb:2<=b/\b<=5)(o:OnceN (l++r) ns)(c:0<=k/\k<b ^ ns.length):-((b-1)*bnd l r)<=gns b ns l r k/\gns b ns l r k<=(b-1)*bnd l r:=by
 obtain⟨h,g⟩:=MY hb o c
 have a:(l.length:Int)<=bnd l r/\(r.length:Int)<=bnd l r:=by unfold bnd;omega
 have f:(b-1)*(l.length:Int)<=(b-1)*bnd l r:=Int.mul_le_mul_of_nonneg_left a.1 (by omega)
 have e:(b-1)*(r.length:Int)<=(b-1)*bnd l r:=Int.mul_le_mul_of_nonneg_left a.2 (by omega)
 omega
theorem Se(h:-B<=x/\x<=B):clB B x=x:=by
 unfold clB
 by_cases e:x<B
 ·rw[if_pos e]
  by_cases g:x > -B
  ·rw[if_pos g]
  ·rw[if_neg g];omega
 ·rw[if_neg e]
  by_cases g:B > -B
  ·rw[if_pos g];omega
  ·rw[if_neg g];omega
theorem Sf(h:B<=x)(a:1<=B):clB B x=B:=by
 have e:(if x<B then x else B)=B:=if_neg (by omega)
 unfold clB
 rw[e]
 exact if_pos (by omega)
theorem UG(h:x<=-B)(a:1<=B):clB B x=-B:=by
 have e:(if x<B then x else B)=x:=if_pos (by omega)
 unfold clB
 rw[e]
 exact if_neg (by omega)
theorem DL{g:Int}(hb:2<=b/\b<=5)(a:1<=B)(c:-((b-1)*B)<=g/\g<=(b-1)*B):clB B (b*clB B x+g)=clB B (b*x+g):=by
 rw[Int.sub_mul,Int.one_mul] at c
 rcases (by omega:x < -B\/(-B<=x/\x<=B)\/B<x) with h|h|h
 ·rw[UG (x:=x) (by omega) a]
  have:b*x<=b*(-B):=Int.mul_le_mul_of_nonneg_left (by omega) (by omega)
  rw[Int.mul_neg] at this ⊢
  rw[UG (x:=-(b*B)+g) (by omega) a,UG (x:=b*x+g) (by omega) a]
 ·rw[Se h]
 ·rw[Sf (x:=x) (by omega) a]
  have:b*B<=b*x:=Int.mul_le_mul_of_nonneg_left (by omega) (by omega)
  rw[Sf (x:=b*B+g) (by omega) a,Sf (x:=b*x+g) (by omega) a]
def tvS(b:Int)(ns l r:List OkS)(w:List Int):Int:=w.foldl (λx k=>b*x+gns b ns l r k) 0
theorem MZ(w:List Int)(d:Int):tvS b ns l r (w++[d])=b*tvS b ns l r w+gns b ns l r d:=by unfold tvS;rw[foldl_append];rfl
theorem runS(hb:2<=b/\b<=5)(o:OnceN (l++r) ns)(w:List Int):Dgb ((b ^ ns.length).toNat:Nat) w->ZX (thS b ns l r) w=clB (bnd l r) (tvS b ns l r w):=by
 have g:1<=bnd l r:=by unfold bnd;omega
 have h:=Xh hb ns.length
 refine WN (M:=λw=>Dgb ((b ^ ns.length).toNat:Nat) w->ZX (thS b ns l r) w=clB (bnd l r) (tvS b ns l r w)) w (λ_=>(Se (by show -bnd l r<=0/\0<=bnd l r;omega)).symm) λv d c e=>?_
 obtain⟨f,a⟩:=e.snoc
 rw[Vj,c f,MZ]
 show clB (bnd l r) (b*clB (bnd l r) (tvS b ns l r v)+gns b ns l r (d.toNat:Int))=_
 rw[Int.toNat_of_nonneg a.1]
 exact DL hb g (DK hb o ⟨a.1,by omega⟩)
def plC(b:Int)(cs:List (OkS->Int))(c:OkS):Int:=num b (cs.map λf=>f c)
theorem DM(hb:2<=b/\b<=5)(cs:List (OkS->Int)):XH b cs->tvS b ns l r (wC b ns cs)=(ns.map λc=>plC b cs c*wt l r c).sum:=by
 refine WN (M:=λcs=>XH b cs->tvS b ns l r (wC b ns cs)=(ns.map λc=>plC b cs c*wt l r c).sum) cs (λ_=>?_) λcs f a h=>?_
 ·have p:(ns.map λc=>plC b [] c*wt l r c)=ns.map λc=>0*wt l r c:=map_congr_left λc _=>rfl
  rw[p,UF,Int.zero_mul]
  rfl
 ·have m:=h f (mem_append_right _ (.head _))
  have e:wC b ns (cs++[f])=wC b ns cs++[num b (ns.map f)]:=map_append ..
  rw[e,MZ,a λg j=>h g (mem_append_left _ j)]
  unfold gns
  rw[TZ hb (length_map ..) λx i=>by obtain⟨c,_,rfl⟩:=mem_map.mp i;exact m c,DJ,<- UF,<- Sb]
  congr 1
  refine map_congr_left λc q=>?_
  have n:plC b (cs++[f]) c=plC b cs c*b+f c:=by unfold plC;rw[map_append,List.map_singleton,VD]
  rw[n,Int.add_mul,Int.mul_comm (plC b cs c) b,Int.mul_assoc]
theorem DN(hb:2<=b/\b<=5)(o:OnceN (l++r) ns)(h:XH b cs):tvS b ns l r (wC b ns cs)=(r.map (plC b cs)).sum-(l.map (plC b cs)).sum:=by
 rw[DM hb cs h]
 have e:(ns.map λc=>plC b cs c*wt l r c)=ns.map λc=>(cntD r c:Int)*plC b cs c+(-1)*((cntD l c:Int)*plC b cs c):=map_congr_left λc _=>by
  unfold wt
  rw[Int.mul_sub,Int.mul_comm (plC b cs c),Int.mul_comm (plC b cs c)]
  omega
 rw[e,Sb,UF,Sd _ o.d λx a=>(o.m x).mpr (mem_append_right _ a),Sd _ o.d λx a=>(o.m x).mpr (mem_append_left _ a)]
 omega
theorem DO(q:Bool)(a:1<=B):sgS q (clB B x)=sgS q x:=by
 have b:(clB B x=0↔x=0)/\(0<clB B x↔0<x):=by
  rcases (by omega:x < -B\/(-B<=x/\x<=B)\/B<x) with h|h|h
  ·rw[UG (x:=x) (by omega) a];omega
  ·rw[Se h];exact⟨.rfl,.rfl⟩
  ·rw[Sf (x:=x) (by omega) a];omega
 unfold sgS
 rw[decide_eq_decide.mpr b.1,decide_eq_decide.mpr b.2]
theorem M0(hb:2<=b/\b<=5)(o:OnceN (l++r) ns)(hw:Nrw b ns)(f:Ys (thS b ns l r) (sgS q) N):Mn b ns N λcs=>sgS q ((r.map (plC b cs)).sum-(l.map (plC b cs)).sum)=1:=by
 obtain⟨a,m,j,i⟩:=UE f
 have n:=Xh hb ns.length
 have h:1<=bnd l r:=by unfold bnd;omega
 have en:(((b ^ ns.length).toNat:Nat):Int)=b ^ ns.length:=by omega
 have a:ltr N=(b ^ ns.length).toNat:=a
 refine⟨⟨hb,⟨o.s,o.d,λ_=>.rfl⟩,hw,m,by rw[a,en],j,λs g=>?_⟩,λcs e=>?_⟩
 ·obtain⟨x,rfl⟩:=QR f s g
  exact MP q x
 ·have c:Dgb (((b ^ ns.length).toNat:Nat):Int) (wC b ns cs):=by rw[en];exact V2 hb e
  rw[show sgw N (wC b ns cs)=_ from i _ c,runS hb o _ c,DO q h,DN hb o e]
theorem DP(a:1<=B)(h:x<=-1):clB B x<=-1:=by
 rcases (by omega:x < -B\/(-B<=x/\x<=B)\/B<x) with h|h|h
 ·rw[UG (x:=x) (by omega) a];omega
 ·rw[Se h];omega
 ·omega
theorem M1(hb:2<=b/\b<=5)(o:OnceN (l++r) ns)(hl:l.length<=2)(A:r.length<=1)(u:Ys (thS b ns l r) (sgS q) N):N.rows.length<=4:=by
 obtain⟨c,g,p,n⟩:=UE u
 have C:=Xh hb ns.length
 have y:1<=bnd l r/\bnd l r<=2:=by unfold bnd;omega
 have c:ltr N=(b ^ ns.length).toNat:=c
 have s:bs N=(((b ^ ns.length).toNat:Nat):Int):=by show ((ltr N:Nat):Int)=_;rw[c]
 have ks:∀ x:Int,sgS q x=sgS q (if x<0 then -1 else x):=λx=>by
  by_cases f:x<0
  ·rw[if_pos f]
   unfold sgS
   rw[decide_eq_false (show ¬ x=0 by omega),decide_eq_false (show ¬ 0<x by omega),decide_eq_false (show ¬ (-1:Int)=0 by omega),decide_eq_false (show ¬ (0:Int) < -1 by omega)]
  ·rw[if_neg f]
 refine Dr (κ:=λw=>if ZX (thS b ns l r) w<0 then -1 else ZX (thS b ns l r) w) (V:=[-1,0,1,2]) p (λw a=>?_) λw v a i e=>My (κ:=λw=>if ZX (thS b ns l r) w<0 then -1 else ZX (thS b ns l r) w) p (λw v a i e=>?_) (λw v d a i e E=>?_) a i e
 ·rw[s] at a
  have:=MR (B:=bnd l r) (x:=tvS b ns l r w) (by omega)
  rw[<- runS hb o w a] at this
  by_cases f:ZX (thS b ns l r) w<0
  ·rw[if_pos f];simp
  ·rw[if_neg f]
   simp
   omega
 ·rw[s] at a i
  rw[show sgw N w=_ from n w a,show sgw N v=_ from n v i,ks,e,<- ks]
 ·have j:0<=((d.toNat:Nat):Int)/\((d.toNat:Nat):Int)<b ^ ns.length:=by omega
  obtain⟨H,G⟩:=MY hb o j
  have F:(b-1)*(r.length:Int)<=(b-1)*1:=Int.mul_le_mul_of_nonneg_left (by omega) (by omega)
  have h:∀ x:Int,x<0->(thS b ns l r).g x d.toNat<0:=λx f=>by
   have m:b*x<=b*(-1):=Int.mul_le_mul_of_nonneg_left (by omega) (by omega)
   have:=DP (B:=bnd l r) (x:=b*x+gns b ns l r ((d.toNat:Nat):Int)) y.1 (by omega)
   show clB _ _<0
   omega
  rw[Vj,Vj]
  by_cases c:ZX (thS b ns l r) w<0
  ·by_cases g:ZX (thS b ns l r) v<0
   ·rw[if_pos (h _ c),if_pos (h _ g)]
   ·rw[if_pos c,if_neg g] at e;omega
  ·by_cases g:ZX (thS b ns l r) v<0
   ·rw[if_neg c,if_pos g] at e;omega
   ·rw[if_neg c,if_neg g] at e
    rw[e]
end
def stI(fg:List Int)(x:Int)(l:Nat):Int:=if x=0/\l=0 then 0 else if x<fg.length/\fg.getD x.toNat 0=l then x+1 else fg.length+1
def thI(b:Int)(fg:List Int):Th Int:=⟨0,b.toNat,fg.length+2,stI fg,rgI (fg.length+2)⟩
def sgI(fg:List Int)(x:Int):Int:=if x=fg.length then 1 else 0
theorem M2(a:List Int)(x:Int):sgI a x=0\/sgI a x=1:=by
 unfold sgI
 by_cases h:x=a.length
 ·exact .inr (if_pos h)
 ·exact .inl (if_neg h)
theorem DQ{a:List Int}(hb:2<=b/\b<=5)(h:a.length<=1):(thI b a).Ok:=by
 have g:(rgI (a.length+2)).length=a.length+2:=by simp[rgI]
 refine⟨ZD.mpr ⟨Int.le_refl _,by show (0:Int)<_;omega⟩,λx e l _=>?_,?_,?_,?_⟩
 ·have e:=ZD.mp (show x∈rgI (a.length+2) from e)
  refine ZD.mpr (show 0<=stI a x l/\stI a x l<_ from ?_)
  unfold stI
  by_cases f:x=0/\l=0
  ·rw[if_pos f];omega
  ·rw[if_neg f]
   by_cases c:x<a.length/\a.getD x.toNat 0=l
   ·rw[if_pos c];have:=c.1;omega
   ·rw[if_neg c];omega
 ·show ((rgI (a.length+2)).length:Int)<=a.length+2;omega
 ·show b.toNat<=1000;omega
 ·show (rgI (a.length+2)).length<=1000;omega
theorem M3{p:Int}(hb:2<=b/\b<=5)(a:0<=p/\p<b):(figs b p).length<=1:=by
 unfold figs
 rw[List.length_reverse]
 by_cases h:0<p
 ·rw[U5 hb.1 hb.2 h,Wf (by rw[Int.ediv_eq_zero_of_lt a.1 a.2];decide)]
  exact Nat.le_refl 1
 ·rw[Wf h]
  exact Nat.zero_le _
def M4(cs:List AV):Prop:=∃ (b:Int) (nm:OkS) (p:Int),cs=[.d (.int b),.d (dS nm),.d (.int p)]/\(2<=b/\b<=5)/\0<=p/\p<b
def QX(cs:List AV)(c:AV):Prop:=∃ (b:Int) (nm:OkS) (p:Int) (N:Mach),cs=[.d (.int b),.d (dS nm),.d (.int p)]/\Ys (thI b (figs b p)) (sgI (figs b p)) N/\c=.d (Zr b [nm] N)
theorem DR(T:Txt K mg)(B:base.BuiltinsAt mg mainGlobals)(y:∀ p∈ts0,p∈Tabs.ts):Cal P w K mg base CX0 9 "place_is" ["base", "name", "place"] [] (spR K M4 QX NP):=by
 obtain⟨c0,Q⟩:=T.x_place_is
 have c_figures_of:Cal P w K mg base _ _ _ _ _ _:=Mb T [] (by simp)
 have c_least_met:Cal P w K mg base _ _ _ _ _ _:=QO T B y KEnc.int (λa b e=>PyData.int.inj e) λx=>rfl
 have c_as_sign:Cal P w K mg base _ _ _ _ _ _:=T9 T
 refine Ty (k:=8) Q Vf (λcs ⟨_,_,_,e,_⟩=>by rw[e];rfl) (λf A q s H E r=>?_)
 refine⟨_,(Ze (Zp (i:=3) Vf.nd rfl (Or.inr rfl) (Zg (c_figures_of.mono (by decide)) r rfl pass0 (Za (pv 2) (Za (pv 0) Zb))))
   (Ze (Z3 (Zw XN (ZA (ZS (K:=K) rfl) rfl T.n_len PySem.boot_len (Za (pv 3) Zb)) (VB T.g_MOST_FIGURES rfl) (nomark _))
    (Zh Vp)
    ZO)
   (Ze (Zp (i:=4) Vf.nd rfl (Or.inr rfl) (Zl (Z8 (K:=K) rfl) (ZA (ZS (K:=K) rfl) rfl T.n_len PySem.boot_len (Za (pv 3) Zb)) Zc))
   (Ze (Xp (name := "lead") (qual := "place_is.<locals>.lead") (params:=ZP WH) (body:=Zv WH) (scope:=Zd WH) (P:=X5) (i:=5) Vf.nd rfl (Or.inl rfl) rfl rfl rfl rfl rfl Q.tab FN B)
   (Ze (Xp (name := "sign") (qual := "place_is.<locals>.sign") (params:=ZP WI) (body:=Zv WI) (scope:=Zd WI) (P:=X5) (i:=6) Vf.nd rfl (Or.inl rfl) rfl rfl rfl rfl rfl Q.tab FQ B)
   (Zh (Zq (Yd (Za (pv 0) (Za (Yd (Za (pv 1) Zb)) (Za (W9 (c_least_met.mono (by decide)) r rfl (W8 (E:=E0)) (Za Zc (Za (pv 0) (Za (pv 5) (Za (pv 6) (Za (Zl (Z8 (K:=K) rfl) (ZA (ZS (K:=K) rfl) rfl T.n_len PySem.boot_len (Za (pv 3) Zb)) Zc) Zb)))))) Zb))))))))))),?_⟩
 rintro cs ⟨b,nm,p,rfl,hb,h0,h1⟩
 show Sv K _ _ _ [some (.d (.int b)),some (.d (dS nm)),some (.d (.int p)),none,none,none,none] _
 o_law
 refine Mc hb h0 (Nat.lt_of_lt_of_le (show p.toNat<2 ^ 3 by omega) (Nat.pow_le_pow_right (by decide) (by decide))) ?_
 refine VN (Xe _) ?_
 have S:=M3 hb ⟨h0,h1⟩
 have u:∀ {c},(∃ N,Ys (thI b (figs b p)) (sgI (figs b p)) N/\c=.d (Zr b [nm] N))->QX [.d (.int b),.d (dS nm),.d (.int p)] c:=λ⟨N,O,e⟩=>⟨b,nm,p,N,rfl,O,e⟩
 generalize figs b p=g at *
 show Sv K _ _ _ [some (.d (.int b)),some (.d (dS nm)),some (.d (.int p)),some (.d (dI g)),none,none,none] _
 o_law
 refine Z9 rfl ?_
 rw[length_map]
 o_law
 refine Y2 (by omega) ?_
 o_law
 refine Z9 rfl ?_
 rw[length_map]
 o_law
 refine Xq (y (X5,Qz) (by simp[ts0])) (by decide +kernel) (by show 5<7;decide) ?_
 o_law
 refine Xq (y (X5,Qz) (by simp[ts0])) (by decide +kernel) (by show 6<7;decide) ?_
 show Sv K _ _ _ [some (.d (.int b)),some (.d (dS nm)),some (.d (.int p)),some (.d (dI g)),some (.d (.int (g.length+1))),some (.obj _),some (.obj _)] _
 o_law
 refine Yg ?_
 o_law
 refine Yg ?_
 o_law
 refine⟨[.d (dS nm)],.cons rfl .nil,by show 1<=1000;decide,?_⟩
 o_law
 refine Vc ?_
 o_law
 refine Z9 rfl ?_
 rw[length_map]
 o_law
 have en:((b.toNat:Nat):Int)=b:=by omega
 refine⟨(thI b g,sgI g),[.d (.int 0),.d (.int b),.obj (CloOk P w K mg base CX0 3 (spR K (YG PyData.int (thI b g)) (YH PyData.int (thI b g)) NP)),.obj (CloOk P w K mg base CX0 3 (spR K (X7 PyData.int (thI b g)) (X8 PyData.int (sgI g)) NP)),.d (.int (g.length+2))],
  .cons (.d NR.av rfl) (.cons (.d NR.av rfl) (.cons (.o (λv Z Y m h=>h.same m) λX R ts as W U v s L M=>?lead) (.cons (.o (λv Z Y m h=>h.same m) λX R ts as W U v s L M=>?sign) (.cons (.d NR.av rfl) .nil)))),⟨⟨DQ hb S,by show _=[AV.d (.int 0),.d (.int ((b.toNat:Nat):Int)),_,_,_];rw[en];rfl⟩,⟨by show 1<=b.toNat;omega,by show b.toNat<=64;omega,by show (rgI _).length<=100;simp[rgI];omega,λx _=>by show 0<=sgI g x/\sgI g x<=9;rcases M2 g x with e|e<;>rw[e]<;>decide⟩⟩,λd ⟨N,O,ec⟩=>?_⟩
 case lead =>
  refine Xr (k:=2) FL FM Vf.nofree (λ_=>rfl) (λ_ _ _ _ _ s us J=>by obtain⟨a,b,rfl⟩:=len2 J;exact .of_eq rfl) (λcs ⟨x,l,e,_⟩=>by rw[e];rfl) (λcs ⟨x,l,e,_⟩=>by rw[e];rfl) M L s λcl f c A q s H E r=>?_
  refine⟨_,(Ze (Z3 (PW.pt (UL (Zw (Yu (K:=K) rfl r.units) (pv 0) Zc (nomark _)) (UK (Zw (Yu (K:=K) rfl r.units) (pv 1) Zc (nomark _)))))
    (Zh (Zq Zc))
    ZO)
   (Ze (Z3 (PW.pt (UL (Zw Vt (pv 0) (ZA (ZS (K:=K) rfl) rfl T.n_len PySem.boot_len (Za (pv 2) Zb)) (nomark _)) (UK (Zw (Yu (K:=K) rfl r.units) (Zj (Zk (K:=K) rfl r.units) (pv 2) (pv 0) (λ_ _=>rfl)) (pv 1) (nomark _)))))
    (Zh (Zq (Zl (Z8 (K:=K) rfl) (pv 0) Zc)))
    ZO)
   (Zh (Zq (pv 3))))),?_⟩
  rintro cs ⟨x,l,rfl,G,J⟩
  show Sv K _ _ _ [some (.d (.int x)),some (.d (.int l)),some (.d (dI g)),some (.d (.int (g.length+1)))] _
  have G:=ZD.mp (show x∈rgI (g.length+2) from G)
  replace G:0<=x/\x<=g.length+1:=by omega
  w_on
  refine ite2 (λF=>?_) λF=>?_
  ·have F:x=0:=of_decide_eq_true F
   w_on
   refine ite2 (λI=>?_) λI=>?_
   ·have I:(l:Int)=0:=of_decide_eq_true I
    w_on
    exact⟨_,Zt rfl,x,l,rfl,by show AV.d (.int 0)=.d (.int (stI g x l));rw[show stI g x l=0 from if_pos ⟨F,by omega⟩]⟩
   ·have I:¬ (l:Int)=0:=λz=>I (decide_eq_true z)
    have C:¬ (x=0/\l=0):=by omega
    w_on
    refine Z9 rfl ?_
    rw[length_map]
    w_on
    refine ite2 (λj=>?_) λj=>?_
    ·have j:x<g.length:=of_decide_eq_true j
     w_on
     refine ZL rfl (X6 G.1 j) Zs.d ?_
     w_on
     refine ite2 (λn=>?_) λn=>?_
     ·have n:g.getD x.toNat 0=l:=of_decide_eq_true n
      w_on
      exact⟨_,Zt rfl,x,l,rfl,by show AV.d (.int (x+1))=.d (.int (stI g x l));rw[show stI g x l=x+1 by unfold stI;rw[if_neg C,if_pos ⟨j,n⟩]]⟩
     ·have n:¬ g.getD x.toNat 0=l:=λz=>n (decide_eq_true z)
      w_on
      exact⟨_,Zt rfl,x,l,rfl,by show AV.d (.int (g.length+1))=.d (.int (stI g x l));rw[show stI g x l=g.length+1 by unfold stI;rw[if_neg C,if_neg λz=>n z.2]]⟩
    ·have j:¬ x<g.length:=λz=>j (decide_eq_true z)
     w_on
     exact⟨_,Zt rfl,x,l,rfl,by show AV.d (.int (g.length+1))=.d (.int (stI g x l));rw[show stI g x l=g.length+1 by unfold stI;rw[if_neg C,if_neg λz=>j z.1]]⟩
  ·have F:¬ x=0:=λz=>F (decide_eq_true z)
   have C:¬ (x=0/\l=0):=λz=>F z.1
   w_on
   refine Z9 rfl ?_
   rw[length_map]
   w_on
   refine ite2 (λj=>?_) λj=>?_
   ·have j:x<g.length:=of_decide_eq_true j
    w_on
    refine ZL rfl (X6 G.1 j) Zs.d ?_
    w_on
    refine ite2 (λn=>?_) λn=>?_
    ·have n:g.getD x.toNat 0=l:=of_decide_eq_true n
     w_on
     exact⟨_,Zt rfl,x,l,rfl,by show AV.d (.int (x+1))=.d (.int (stI g x l));rw[show stI g x l=x+1 by unfold stI;rw[if_neg C,if_pos ⟨j,n⟩]]⟩
    ·have n:¬ g.getD x.toNat 0=l:=λz=>n (decide_eq_true z)
     w_on
     exact⟨_,Zt rfl,x,l,rfl,by show AV.d (.int (g.length+1))=.d (.int (stI g x l));rw[show stI g x l=g.length+1 by unfold stI;rw[if_neg C,if_neg λz=>n z.2]]⟩
   ·have j:¬ x<g.length:=λz=>j (decide_eq_true z)
    w_on
    exact⟨_,Zt rfl,x,l,rfl,by show AV.d (.int (g.length+1))=.d (.int (stI g x l));rw[show stI g x l=g.length+1 by unfold stI;rw[if_neg C,if_neg λz=>j z.1]]⟩
 case sign =>
  refine Xr (k:=2) FO FP Vf.nofree (λ_=>rfl) (λ_ _ _ _ _ s us J=>by obtain⟨a,rfl⟩:=len1 J;exact .of_eq rfl) (λcs ⟨x,e,_⟩=>by rw[e];rfl) (λcs ⟨x,e,_⟩=>by rw[e];rfl) M L s λcl f c A q s H E r=>?_
  refine⟨_,(Zh (Zq (Zg (c_as_sign.mono (by decide)) r rfl pass0 (Za (Vu (Yu (K:=K) rfl r.units) (pv 0) (ZA (ZS (K:=K) rfl) rfl T.n_len PySem.boot_len (Za (pv 1) Zb)) (nomark _)) Zb)))),?_⟩
  rintro cs ⟨x,rfl,G⟩
  show Sv K _ _ _ [some (.d (.int x)),some (.d (dI g))] _
  w_on
  refine Z9 rfl ?_
  rw[length_map]
  w_on
  refine ZV (by walk_at "nrs") ⟨_,rfl,rfl⟩ (Got.own rfl) ?_
  refine⟨_,Zt rfl,x,rfl,?_⟩
  show AV.d (.int _)=.d (.int (sgI g x))
  unfold sgI
  by_cases e:x=g.length<;>simp[e]
 subst ec
 refine⟨rfl,_,Got.own (YC _),?_⟩
 o_law
 exact⟨[.d (.int b),.d (.tuple [dS nm]),.d (dM N)],.cons rfl (.cons rfl (.cons rfl .nil)),by show 3<=1000;decide,_,Zt rfl,u ⟨N,O,rfl⟩⟩
theorem DS{p:Int}(hb:2<=b/\b<=5)(g:0<=p/\p<b)(a:Ys (thI b (figs b p)) (sgI (figs b p)) N):Rn b [nm] N/\N.rows.length<=4:=by
 obtain⟨c,i,h,m⟩:=UE a
 have c:ltr N=b.toNat:=c
 have j:=M3 hb g
 refine⟨⟨hb,once1 nm,⟨by show 1<=4;decide,by rw[length_singleton,pw1];omega⟩,i,by rw[c,length_singleton,pw1];omega,h,λs f=>?_⟩,?_⟩
 ·obtain⟨x,rfl⟩:=QR a s f
  exact M2 _ x
 ·have:=QT a
  have e:(thI b (figs b p)).U.length=(figs b p).length+2:=by show (rgI _).length=_;simp[rgI]
  omega
def DT(P:Program)(w:World)(K:W.Frag)(mg:Str->Option Value)(base:Heap)(i:PrIx)(cs:List AV):Prop :=
 i.Ok/\cs=[.d (Zr i.b i.na i.A),.d (Zr i.b i.nc i.B),.obj (CloOk P w K mg base CX0 2 (spR K XF (XG i.g) NP))]
theorem M5(T:Txt K mg)(B:base.BuiltinsAt mg mainGlobals)(i:∀ p∈ts0,p∈Tabs.ts):Cal P w K mg base CX0 10 "joined" ["one", "other", "sign"] [] (spF K (DT P w K mg base) V1):=by
 have c_paired:Cal P w K mg base _ _ _ _ _ _:=Mr T B i
 refine Ws T.x_joined Fm (λa cs ⟨_,e⟩=>by rw[e];rfl) (λa f j A g s H E b=>?_) [] (by simp)
 refine⟨_,(Ze (Z3 (Zw (Yz (K:=K) rfl b.units) (Zj (Zk (K:=K) rfl b.units) (pv 0) Zc (λ_ _=>rfl)) (Zj (Zk (K:=K) rfl b.units) (pv 1) Zc (λ_ _=>rfl)) (nomark _))
    (Zh Vp)
    ZO)
   (Zh (Zq (Zg (c_paired.mono (by decide)) b rfl pass0 (Za (Zj (Zk (K:=K) rfl b.units) (pv 0) Zc (λ_ _=>rfl)) (Za (Zj (Zk (K:=K) rfl b.units) (pv 0) Zc (λ_ _=>rfl)) (Za (Zj (Zk (K:=K) rfl b.units) (pv 0) Zc (λ_ _=>rfl)) (Za (Zj (Zk (K:=K) rfl b.units) (pv 1) Zc (λ_ _=>rfl)) (Za (Zj (Zk (K:=K) rfl b.units) (pv 1) Zc (λ_ _=>rfl)) (Za (pv 2) Zb)))))))))),?_⟩
 rintro cs ⟨h,rfl⟩
 show Sv K _ _ _ [some (.d (Zr a.b a.na a.A)),some (.d (Zr a.b a.nc a.B)),some (.obj (CloOk P w K mg base CX0 2 (spR K XF (XG a.g) NP)))] _
 o_law
 refine SO rfl ?_
 o_law
 refine ZH ?_
 o_law
 refine⟨a,[.d (.int a.b),.d (dM a.A),.d (.tuple (a.na.map dS)),.d (dM a.B),.d (.tuple (a.nc.map dS)),.obj _],.cons (.d NR.av rfl) (.cons (.d NR.av rfl) (.cons (.d NR.av rfl) (.cons (.d NR.av rfl) (.cons (.d NR.av rfl) (.cons .o .nil))))),⟨h,rfl⟩,λc ⟨ns,N,o,hN,ec⟩=>?_,λ_ z=>z.elim⟩
 subst ec
 exact⟨_,Got.own (YT _ _ _),_,Zt rfl,ns,N,o,hN,rfl⟩
def V4(x y:Int):Int:=if y<x then y else x
def Vk(x y:Int):Int:=if y > x then y else x
def Sg(g:Int->Int->Int)(i:PrIx)(cs:List AV):Prop:=i.Ok/\i.g=g/\cs=[.d (Zr i.b i.na i.A),.d (Zr i.b i.nc i.B)]
theorem M6(T:Txt K mg)(B:base.BuiltinsAt mg mainGlobals)(n:∀ p∈ts0,p∈Tabs.ts):Cal P w K mg base CX0 11 "both" ["one", "other"] [] (spF K (Sg V4) V1):=by
 obtain⟨Q,I⟩:=T.x_both
 have c_joined:Cal P w K mg base _ _ _ _ _ _:=M5 T B n
 refine RL (k:=10) I Qc (λF cs ⟨_,_,e⟩=>by rw[e];rfl) (λF f A j s H E G=>?_)
 refine⟨_,(Ze (Xp (name := "sign") (qual := "both.<locals>.sign") (params:=ZP WA) (body:=Zv WA) (scope:=Zd WA) (P:=Vg) (i:=2) Qc.nd rfl (Or.inl rfl) rfl rfl rfl rfl rfl I.tab Fq B)
   (Zh (Zq (W9 (c_joined.mono (by decide)) G rfl (W8 (E:=E0)) (Za (pv 0) (Za (pv 1) (Za (pv 2) Zb))))))),?_⟩
 rintro cs ⟨h,eg,rfl⟩
 obtain⟨b,r,q,C,u,g,U⟩:=F
 subst eg
 show Sv K _ _ _ [some (.d (Zr b r C)),some (.d (Zr b q u)),none] _
 o_law
 refine Xq (n (Vg,Nv) (by simp[ts0])) (by decide +kernel) (by show 2<3;decide) ?_
 show Sv K _ _ _ [some (.d (Zr b r C)),some (.d (Zr b q u)),some (.obj _)] _
 o_law
 refine Vc ?_
 o_law
 refine⟨⟨b,r,q,C,u,V4,U⟩,[.d (Zr b r C),.d (Zr b q u),.obj (CloOk P w K mg base CX0 2 (spR K XF (XG V4) NP))],.cons (.d NR.av rfl) (.cons (.d NR.av rfl) (.cons (.o (λv Y X m h=>h.same m) λW O ts as S R v s L J=>?sign) .nil)),⟨h,rfl⟩,λd ⟨ns,N,o,hN,ec⟩=>?_⟩
 case sign =>
  refine Xr (k:=1) Fn Fo Qc.nofree (λ_=>rfl) (λ_ _ _ _ _ s us M=>by obtain⟨a,b,rfl⟩:=len2 M;exact .of_eq rfl) (λcs ⟨x,y,e⟩=>by rw[e];rfl) (λcs ⟨x,y,e⟩=>by rw[e];rfl) J L s λcl f c A j s H E G=>?_
  refine⟨_,(Zh (Zq (ZA (Ph rfl) rfl T.n_min PyProof.Rows.boot_min (Za (pv 0) (Za (pv 1) Zb))))),?_⟩
  rintro cs ⟨x,y,rfl⟩
  show Sv K _ _ _ [some (.d (.int x)),some (.d (.int y))] _
  w_on
  refine OS ?_
  exact⟨_,Zt rfl,x,y,rfl,rfl⟩
 subst ec
 exact⟨rfl,_,Got.own (YT _ _ _),_,Zt rfl,ns,N,o,hN,rfl⟩
theorem QY(T:Txt K mg)(B:base.BuiltinsAt mg mainGlobals)(n:∀ p∈ts0,p∈Tabs.ts):Cal P w K mg base CX0 11 "either" ["one", "other"] [] (spF K (Sg Vk) V1):=by
 obtain⟨Q,I⟩:=T.x_either
 have c_joined:Cal P w K mg base _ _ _ _ _ _:=M5 T B n
 refine RL (k:=10) I Qd (λF cs ⟨_,_,e⟩=>by rw[e];rfl) (λF f A j s H E G=>?_)
 refine⟨_,(Ze (Xp (name := "sign") (qual := "either.<locals>.sign") (params:=ZP WC) (body:=Zv WC) (scope:=Zd WC) (P:=Vh) (i:=2) Qd.nd rfl (Or.inl rfl) rfl rfl rfl rfl rfl I.tab Ft B)
   (Zh (Zq (W9 (c_joined.mono (by decide)) G rfl (W8 (E:=E0)) (Za (pv 0) (Za (pv 1) (Za (pv 2) Zb))))))),?_⟩
 rintro cs ⟨h,eg,rfl⟩
 obtain⟨b,r,q,C,u,g,U⟩:=F
 subst eg
 show Sv K _ _ _ [some (.d (Zr b r C)),some (.d (Zr b q u)),none] _
 o_law
 refine Xq (n (Vh,Nw) (by simp[ts0])) (by decide +kernel) (by show 2<3;decide) ?_
 show Sv K _ _ _ [some (.d (Zr b r C)),some (.d (Zr b q u)),some (.obj _)] _
 o_law
 refine Vc ?_
 o_law
 refine⟨⟨b,r,q,C,u,Vk,U⟩,[.d (Zr b r C),.d (Zr b q u),.obj (CloOk P w K mg base CX0 2 (spR K XF (XG Vk) NP))],.cons (.d NR.av rfl) (.cons (.d NR.av rfl) (.cons (.o (λv Y X m h=>h.same m) λW O ts as S R v s L J=>?sign) .nil)),⟨h,rfl⟩,λd ⟨ns,N,o,hN,ec⟩=>?_⟩
 case sign =>
  refine Xr (k:=1) Fr Fs Qd.nofree (λ_=>rfl) (λ_ _ _ _ _ s us M=>by obtain⟨a,b,rfl⟩:=len2 M;exact .of_eq rfl) (λcs ⟨x,y,e⟩=>by rw[e];rfl) (λcs ⟨x,y,e⟩=>by rw[e];rfl) J L s λcl f c A j s H E G=>?_
  refine⟨_,(Zh (Zq (ZA (Pg rfl) rfl T.n_max PyProof.Rows.boot_max (Za (pv 0) (Za (pv 1) Zb))))),?_⟩
  rintro cs ⟨x,y,rfl⟩
  show Sv K _ _ _ [some (.d (.int x)),some (.d (.int y))] _
  w_on
  refine OW ?_
  exact⟨_,Zt rfl,x,y,rfl,rfl⟩
 subst ec
 exact⟨rfl,_,Got.own (YT _ _ _),_,Zt rfl,ns,N,o,hN,rfl⟩
def S_no(ds:List PyData)(c:AV):Prop:=∃ (b:Int) (ns:List OkS) (M:Mach),ds=[Zr b ns M]/\M.signs.length<=1000/\c=.d (Zr b ns (noM M))
theorem M7(T:Txt K mg):Cal P w K mg base CX0 1 "no" ["one"] [] (spV K S_no NX):=by
 refine val T.x_no Nu (λds c ⟨_,_,_,e,_⟩=>by rw[e];rfl) (λf h A g s H E a=>?_) [] (by simp)
 refine⟨_,(Ze (Zp (i:=1) Nu.nd rfl (Or.inl rfl) (Zj (Zk (K:=K) rfl a.units) (pv 0) Zc (λ_ _=>rfl)))
   (Zh (Zq (Yd (Za (Zj (Zk (K:=K) rfl a.units) (pv 0) Zc (λ_ _=>rfl)) (Za (Zj (Zk (K:=K) rfl a.units) (pv 0) Zc (λ_ _=>rfl)) (Za (Yd (Za (Zj (Zk (K:=K) rfl a.units) (pv 1) Zc (λ_ _=>rfl)) (Za (Yk (Y3 (K:=K) rfl) rfl T.n_tuple PyProof.Rows.boot_tuple (Za (Y1 (N:=["sign"]) (cap:=[none]) rfl rfl rfl (by kernel_rfl) (Xo (K:=K) rfl (Zj (Zk (K:=K) rfl a.units) (pv 1) Zc (λ_ _=>rfl))) (λ_ _ _ _=>(ZI (i:=0) (show (["sign"]:List Str).Nodup from by decide +kernel) rfl (Or.inl rfl))) (λ_ _ _ _=>YO) (λ_ _ _ _=>(Zl Ue Zc (pv 0)))) Zb)) Zb))) Zb))))))),?_⟩
 rintro ds c ⟨b,ns,M,rfl,hs,rfl⟩
 show Sv K _ _ _ [some (.d (Zr b ns M)),none] _
 o_law
 refine Yg ?_
 o_law
 refine Yg ?_
 o_law
 refine Wi (α:=Int) ?_
 o_law
 refine⟨M.signs,PyData.int,λs=>.d (.int (1-s)),.inr rfl,NR.av,by omega,λi j=>?_,_,Got.own (YR λ_=>rfl),?_⟩
 ·show Gv K _ _ [none] _
  o_law
  refine⟨Y7,?_⟩
  o_law
  rfl
 o_law
 refine Y6 (ds:=(M.signs.map λs=>1-s).map .int) (by rw[TV.data,AV.data,Yq,map_map];rfl) (Kp.flat (Xn _)) ?_
 o_law
 refine⟨[.d (tR M.rows),.d (tI (M.signs.map λs=>1-s))],.cons rfl (.cons rfl .nil),by show 2<=1000;decide,?_⟩
 o_law
 exact⟨[.d (.int b),.d (.tuple (ns.map dS)),.d (dM (noM M))],.cons rfl (.cons rfl (.cons rfl .nil)),by show 3<=1000;decide,Zt rfl⟩
def M8(c:AV):Prop:=∃ r:Int,c=.d (.int r)
def M9(cs:List AV):Prop:=∃ (ns:List Int) (k:Int),cs=[.d (dI ns),.d (.int k)]/\0<=k/\k<900
theorem QZ(T:Txt K mg):Cal P w K mg base CX0 1 "_law_cell" ["_law_script", "_law_k"] [] (spR K M9 (λ_=>M8) NP):=by
 refine Wm T.x_law_cell WJ (λcs ⟨c,k,e,_⟩=>by rw[e];rfl) (λf y A b s H E g=>?_) [] (by simp)
 refine⟨_,(Ze (Zp (i:=2) WJ.nd rfl (Or.inl rfl) Zc)
   (Ze (W4 (Zw Vt (pv 1) (ZA (ZS (K:=K) rfl) rfl T.n_len PySem.boot_len (Za (pv 0) Zb)) (nomark _))
    (Zh (Zp (i:=2) WJ.nd rfl (Or.inl rfl) (Zj (Zk (K:=K) rfl g.units) (pv 0) (pv 1) (λ_ _=>rfl))))
    ZO)
   (Ze (Z3 (PW.pt (UL (Zw XN (ZA (ZS (K:=K) rfl) rfl T.n_len PySem.boot_len (Za (pv 0) Zb)) Zc (nomark _)) (UK (Zw (Yu (K:=K) rfl g.units) (Zl ZM (Zj (Zk (K:=K) rfl g.units) (pv 0) Zc (λ_ _=>rfl)) Zc) Zc (nomark _)))))
    (Zh (Zq (Zl Z7 (pv 2) Zc)))
    ZO)
   (Ze (Zp (i:=3) WJ.nd rfl (Or.inl rfl) (Zl ZM (Zl XA (Zl (Z8 (K:=K) rfl) (Zl (Z8 (K:=K) rfl) (Zl ZM (pv 2) Zc) (Zl XA Zc (pv 1))) Zc) Zc) Zc))
   (Ze (Zp (i:=4) WJ.nd rfl (Or.inl rfl) (pv 3))
   (Ze (YY PassesOwn.never rfl (XM rfl T.n_range (Za Zc Zb)) (ZI (i:=5) WJ.nd rfl (Or.inl rfl))
    (Ze (Zp (i:=3) WJ.nd rfl (Or.inl rfl) (Zl ZM (Zl (Z8 (K:=K) rfl) (Zl XA (pv 3) Zc) Zc) Zc))
    (Zh (Zp (i:=4) WJ.nd rfl (Or.inl rfl) (Zl (Z8 (K:=K) rfl) (Zl XA (pv 4) Zc) (pv 3))))))
   (Zh (Zq (pv 4))))))))),?_⟩
 rintro cs ⟨ns,k,rfl,h0,h1⟩
 show Sv K _ _ _ [some (.d (dI ns)),some (.d (.int k)),none,none,none,none] _
 w_on
 refine W5 (λa=>∃ c:Int,a=[some (.d (dI ns)),some (.d (.int k)),some (.d (.int c)),none,none,none]) ?_ ?_
 case refine_2 =>
  w_on
  refine Z9 rfl ?_
  rw[length_map]
  w_on
  refine ite2 (λh=>?_) λh=>?_
  ·have j:=of_decide_eq_true h
   w_on
   refine ZL rfl (VU h0 j) (Zs.flat rfl) ?_
   w_on
   exact⟨_,rfl⟩
  ·w_on
   exact⟨0,rfl⟩
 rintro a ⟨c,rfl⟩
 refine Rc ?_
 refine Hm ?_ ?_
 case refine_2 =>
  w_on
  refine Z9 rfl ?_
  rw[length_map]
  w_on
  refine ite2 (λh=>?_) λh=>?_
  ·have j:=of_decide_eq_true h
   w_on
   refine ZL rfl (VU (Int.le_refl 0) j) (Zs.flat rfl) ?_
   w_on
   intro _
   w_on
   exact⟨_,Zt rfl,_,rfl⟩
  ·intro z
   cases z
 w_on
 have m:0<=(c%2147483647+1009*k+7)*48271%2147483647:=Int.emod_nonneg _ (by decide)
 have x:(c%2147483647+1009*k+7)*48271%2147483647<2147483647:=Int.emod_lt_of_pos _ (by decide)
 generalize (c%2147483647+1009*k+7)*48271%2147483647=q at m x
 refine Wh ?_
 w_on
 refine⟨4,rfl,⟨by decide,by decide⟩,λi a=>∃ (n v:Int) (o:Option AV),a=[some (.d (dI ns)),some (.d (.int k)),some (.d (.int c)),some (.d (.int n)),some (.d (.int v)),o]/\(0<=n/\n<2147483647)/\0<=v,⟨q,q,none,rfl,⟨m,x⟩,m⟩,?_,?_⟩
 ·rintro i a hi ⟨n,v,o,rfl,hn,hv⟩
  w_on
  have u:0<=(n*69621+7919)%2147483647:=Int.emod_nonneg _ (by decide)
  have r:(n*69621+7919)%2147483647<2147483647:=Int.emod_lt_of_pos _ (by decide)
  generalize (n*69621+7919)%2147483647=p at u r
  exact⟨p,v*2147483647+p,_,rfl,⟨u,r⟩,by omega⟩
 ·rintro a ⟨n,v,o,rfl,hn,hv⟩
  w_on
  exact⟨_,Zt rfl,v,rfl⟩
theorem Si{ns:List Int}(a:0<=k/\k<900)(q:∀ r:Int,Q (.av (.d (.int r)))):ClR M9 (λ_=>M8) NP [] Q X [.av (.d (dI ns)),.av (.d (.int k))] :=
 ⟨_,.cons (.d NR.av rfl) (.cons (.d NR.av rfl) .nil),⟨ns,k,rfl,a.1,a.2⟩,λ_ ⟨r,e⟩=>e▸⟨_,Got.own rfl,q r⟩,λ_ z=>z.elim⟩
def La(cs:List AV):Prop:=∃ (ns:List Int) (a l r wd:Int),cs=[.d (dI ns),.d (.int a),.d (.int l),.d (.int r),.d (.int wd)]/\(0<=a/\a<=100)/\(1<=r/\r<=5)/\(2<=l/\l<=5)/\(1<=wd/\wd<=3)
def Lb(cs:List AV)(c:AV):Prop:=∃ (ns:List Int) (a r l wd:Int) (M:Mach),cs=[.d (dI ns),.d (.int a),.d (.int l),.d (.int r),.d (.int wd)]/\Good r l wd M/\c=.d (dM M)
theorem DU(T:Txt K mg):Cal P w K mg base CX0 2 "_law_machine" ["_law_script", "_law_at", "_law_base", "_law_many", "_law_width"] [] (spR K La Lb NP):=by
 have c_law_cell:Cal P w K mg base _ _ _ _ _ _:=QZ T
 refine Wm T.x_law_machine X1 (λcs ⟨_,_,_,_,_,e,_⟩=>by rw[e];rfl) (λf W A J s H E O=>?_) [] (by simp)
 refine⟨_,(Ze (Zp (i:=5) X1.nd rfl (Or.inl rfl) (Zg (c_law_cell.mono (by decide)) O rfl pass0 (Za (pv 0) (Za (pv 1) Zb))))
   (Ze (Zp (i:=6) X1.nd rfl (Or.inl rfl) (ZZ Zb))
   (Ze (Zp (i:=7) X1.nd rfl (Or.inl rfl) (ZZ Zb))
   (Ze (YY PassesOwn.never rfl (XM rfl T.n_range (Za (pv 3) Zb)) (ZI (i:=8) X1.nd rfl (Or.inl rfl))
    (Ze (Yh (Y4 (K:=K) rfl PySem.F.plainAttrs_list PySem.F.slot_list_append PySem.F.type_list_append Xl (pv 7) (Za (Zl ZM (pv 5) (pv 4)) Zb)))
    (Ze (Zp (i:=5) X1.nd rfl (Or.inl rfl) (Zl Z7 (pv 5) (pv 4)))
    (Ze (Zp (i:=9) X1.nd rfl (Or.inl rfl) (ZZ Zb))
    (Ze (YY PassesOwn.never rfl (XM rfl T.n_range (Za (pv 2) Zb)) (ZI (i:=10) X1.nd rfl (Or.inl rfl))
     (Ze (Yh (Y4 (K:=K) rfl PySem.F.plainAttrs_list PySem.F.slot_list_append PySem.F.type_list_append Xl (pv 9) (Za (Zl ZM (pv 5) (pv 3)) Zb)))
     (Zh (Zp (i:=5) X1.nd rfl (Or.inl rfl) (Zl Z7 (pv 5) (pv 3))))))
    (Zh (Yh (Y4 (K:=K) rfl PySem.F.plainAttrs_list PySem.F.slot_list_append PySem.F.type_list_append Xl (pv 6) (Za (pv 9) Zb)))))))))
   (Ze (Ub Zc (UN (Zj (Zk (K:=K) rfl O.units) (pv 6) Zc (λ_ _=>rfl)) Zc (U9 O.units)))
   (Zh (Zq (Yd (Za (Yk (Y3 (K:=K) rfl) rfl T.n_tuple PyProof.Rows.boot_tuple (Za (Y1 (N:=["_law_row"]) (cap:=[none]) rfl rfl rfl (by kernel_rfl) (Xo (K:=K) rfl (pv 6)) (λ_ _ _ _=>(ZI (i:=0) (show (["_law_row"]:List Str).Nodup from by decide +kernel) rfl (Or.inl rfl))) (λ_ _ _ _=>YO) (λ_ _ _ _=>(Yk (Y3 (K:=K) rfl) rfl T.n_tuple PyProof.Rows.boot_tuple (Za (pv 0) Zb)))) Zb)) (Za (Yk (Y3 (K:=K) rfl) rfl T.n_tuple PyProof.Rows.boot_tuple (Za (pv 7) Zb)) Zb)))))))))),?_⟩
 rintro cs ⟨ns,a,l,r,wd,rfl,ha1,hr1,hl1,hw1⟩
 show Sv K _ _ _ [some (.d (dI ns)),some (.d (.int a)),some (.d (.int l)),some (.d (.int r)),some (.d (.int wd)),none,none,none,none,none,none] _
 w_on
 refine Si (by omega) λR=>?_
 w_on
 refine Wh ?_
 w_on
 refine⟨r,rfl,⟨by omega,by omega⟩,λi F=>∃ (c:Int) (rows:List (List Int)) (g:List Int) (L Q C:Option AV),F=[some (.d (dI ns)),some (.d (.int a)),some (.d (.int l)),some (.d (.int r)),some (.d (.int wd)),some (.d (.int c)),some (oL rows),some (oI g),L,none,C]/\rows.length=i/\(∀ x∈rows,(x.length:Int)=l/\∀ y∈x,0<=y/\y<r)/\g.length=i/\∀ x∈g,0<=x/\x<wd,⟨R,[],[],none,none,none,rfl,rfl,by simp,rfl,by simp⟩,?_,?_⟩
 ·rintro i F S ⟨c,rows,g,L,Q,C,rfl,h1,h2,h3,h4⟩
  w_on
  refine XV ?hz ?_
  case hz=>rw[length_map];omega
  rw[QA]
  w_on
  refine Wh ?_
  w_on
  refine⟨l,rfl,⟨by omega,by omega⟩,λj F=>∃ (c:Int) (v:List Int) (C:Option AV),F=[some (.d (dI ns)),some (.d (.int a)),some (.d (.int l)),some (.d (.int r)),some (.d (.int wd)),some (.d (.int c)),some (oL rows),some (oI (g++[_])),some (.d (.int i)),some (oI v),C]/\v.length=j/\(∀ y∈v,0<=y/\y<r),⟨_,[],C,rfl,rfl,by simp⟩,?_,?_⟩
  ·rintro j F hj ⟨c,v,C,rfl,g1,g2⟩
   w_on
   refine XV ?hz ?_
   case hz=>rw[length_map];omega
   w_on
   rw[QA]
   refine⟨_,_,_,rfl,by simp[g1],λy B=>?_⟩
   rcases mem_append.mp B with B|B
   ·exact g2 y B
   ·rw[mem_singleton.mp B]
    exact⟨Int.emod_nonneg _ (by omega),Int.emod_lt_of_pos _ (by omega)⟩
  ·rintro F ⟨c2,v,C,rfl,g1,g2⟩
   refine Iy (m:=9) (n:=6) rfl rfl (by decide) (by rw[length_map];omega) ?_
   refine⟨c2,rows++[v],_,some (.d (.int i)),none,C,by rw[<- FV];rfl,by simp[h1],λx q=>?_,by simp[h3],λx q=>?_⟩
   ·rcases mem_append.mp q with q|q
    ·exact h2 x q
    ·rw[mem_singleton.mp q]
     exact⟨by omega,g2⟩
   ·rcases mem_append.mp q with q|q
    ·exact h4 x q
    ·rw[mem_singleton.mp q]
     exact⟨Int.emod_nonneg _ (by omega),Int.emod_lt_of_pos _ (by omega)⟩
 ·rintro F ⟨c,rows,g,L,Q,C,rfl,h1,h2,h3,h4⟩
  have M:0<rows.length:=by omega
  obtain⟨p,u,rfl⟩:∃ a b,rows=a::b:=by
   cases rows with
   | nil=>simp at M
   | cons a b=>exact⟨a,b,rfl⟩
  have G:0<p.length:=by have:=(h2 p (.head _)).1;omega
  w_on
  refine Hg ?_
  w_on
  refine⟨0,0,p.map λk=>.d (.int k),rfl,?_,rfl,IQ ⟨_,0,rfl,?_,?_⟩⟩
  ·unfold ixN;rw[length_map];simp
  ·unfold ixN;rw[length_map];simp[G]
  ·show Sv K _ _ _ [_,_,_,_,_,_,some (AV.own (((p::u).map oI).set 0 (.own ((p.map λk=>.d (.int k)).set 0 (.d (.int 0)))))),_,_,_,_] _
   have U:AV.own (((p::u).map oI).set 0 (.own ((p.map λk=>.d (.int k)).set 0 (.d (.int 0)))))=oL (p.set 0 0::u):=by
    rw[<- List.map_set];rfl
   rw[U]
   generalize I:p.set 0 0::u=h
   w_on
   refine Yg ?_
   w_on
   refine Wi (α:=List Int) ?_
   w_on
   refine⟨h,dI,λx=>.d (tI x),.inl ?_,NR.bor,?_,λi S=>?_,_,Got.own (YR λx=>UC x),?_⟩
   ·show PyData.list (AV.datas (h.map oI))=_
    have:=FT h
    exact this
   ·rw[<- I];simp only[length_cons] at h1 ⊢;omega
   ·show Gv K _ _ [none] _
    w_on
    refine⟨Y7,?_⟩
    w_on
    exact Y6 (ds:=h[i].map .int) rfl (.inl rfl) rfl
   w_on
   refine Y6 (ds:=h.map tI) (by rw[TV.data,AV.data,Yq]) (.inl rfl) ?_
   w_on
   refine Y6 (ds:=g.map .int) (FS g▸rfl) (Kp.flat (Xn _)) ?_
   w_on
   refine⟨[.d (tR h),.d (tI g)],.cons rfl (.cons rfl .nil),by simp,?_⟩
   refine⟨_,Zt rfl,ns,a,r,l,wd,⟨h,g⟩,rfl,⟨by omega,by omega,?_,?_,by show (g.length:Int)=r;omega,h4,?_⟩,rfl⟩
   ·show (h.length:Int)=r
    rw[<- I];simp only[length_cons] at h1 ⊢;omega
   ·intro x q
    rw[<- I] at q
    rcases mem_cons.mp q with e|q
    ·subst e
     refine⟨by rw[List.length_set];exact (h2 p (.head _)).1,λy B=>?_⟩
     rcases FW B with B|B
     ·exact (h2 p (.head _)).2 y B
     ·subst B;omega
    ·exact h2 x (.tail _ q)
   ·show (h.getD 0 []).getD 0 0=0
    rw[<- I]
    cases p with
    | nil=>simp at G
    | cons a b=>rfl
theorem Lc{ns:List Int}{a l r wd:Int}(j:0<=a/\a<=100)(h1:1<=r/\r<=5)(h2:2<=l/\l<=5)(i:1<=wd/\wd<=3)(q:∀ M,Good r l wd M->Q (.av (.d (dM M)))):ClR La Lb NP [] Q X [.av (.d (dI ns)),.av (.d (.int a)),.av (.d (.int l)),.av (.d (.int r)),.av (.d (.int wd))] :=
 ⟨_,.cons (.d NR.av rfl) (.cons (.d NR.av rfl) (.cons (.d NR.av rfl) (.cons (.d NR.av rfl) (.cons (.d NR.av rfl) .nil)))),⟨ns,a,l,r,wd,rfl,j,h1,h2,i⟩,λc g=>by
  obtain⟨f,p,m,n,b,M,e,h,rfl⟩:=g
  simp only[TV.data,AV.data,append_nil,List.cons.injEq,AV.d.injEq,PyData.int.injEq,and_true] at e
  obtain⟨_,rfl,rfl,rfl,rfl⟩:=e
  exact⟨_,Got.own (YC M),q M h⟩,λ_ z=>z.elim⟩
theorem Ld{α:Type}[DecidableEq α]:∀ {L U:List α},L.Nodup->(∀ x∈L,x∈U)->L.length<=U.length
 | [],_,_,_=>Nat.zero_le _
 | x::L,U,nd,h=>by
  obtain⟨g,f⟩:=nodup_cons.mp nd
  have b:=h x (.head _)
  have c:=Ld (L:=L) (U:=U.erase x) f λy a=>(List.mem_erase_of_ne (λ(e:y=x)=>g (by rw[<- e];exact a))).mpr (h y (.tail _ a))
  rw[List.length_erase_of_mem b] at c
  have i:0<U.length:=List.length_pos_of_mem b
  rw[length_cons]
  omega
theorem Sj(x y:Str):(x++y).cps.toList=x.cps.toList++y.cps.toList:=by
 show (x.cps++y.cps).toList=_
 rw[Array.toList_append]
theorem Le{x:Str}(h:∀ k∈x.cps.toList,k<0x110000):PyData.strOk x=true:=by
 unfold PyData.strOk
 rw[<- Array.all_toList,List.all_eq_true]
 exact λk a=>decide_eq_true (h k a)
theorem Lg{x y:Str}(h:∀ k∈x.cps.toList,k<0x110000)(h':∀ k∈y.cps.toList,k<0x110000):∀ k∈(x++y).cps.toList,k<0x110000:=λk a=>by
 rw[Sj] at a
 exact (mem_append.mp a).elim (h k) (h' k)
abbrev abc:Str := "abcdefghijklmnopqrstuvwxyz"
theorem Lh(h:0<=k/\k<26):atI abc.cps.toList k=some (97+k.toNat):=by
 have e:abc.cps.toList=(List.range 26).map λj=>97+j:=by decide +kernel
 rw[e]
 obtain⟨n,rfl⟩:∃ n:Nat,k=n:=⟨k.toNat,by omega⟩
 have a:n<26:=by omega
 refine Vv ?_
 rw[getElem?_map,getElem?_range a]
 rfl
def kwO:List OkS:=[⟨"some",by decide +kernel⟩,⟨"all",by decide +kernel⟩,⟨"not",by decide +kernel⟩,⟨"and",by decide +kernel⟩,⟨"or",by decide +kernel⟩,⟨"is",by decide +kernel⟩,⟨"like",by decide +kernel⟩]
abbrev oN(ns:List OkS):AV:=.own (ns.map λz=>.d (dS z))
theorem Sk(ns:List OkS):(oN ns).data=.list (ns.map dS):=by rw[AV.data,Yq]
def qn(j:Nat):Str := "q" ++ ⟨#[97+j]⟩
theorem Li{k:Nat}(h:k<26):∀ x∈(⟨#[97+k]⟩:Str).cps.toList,x<0x110000:=λx a=>by
 have:x=97+k:=by simpa using a
 omega
theorem DW(h:j<26):PyData.strOk (qn j)=true:=Le (Lg (by decide +kernel) (Li h))
def qO(j:Nat):OkS:=if h:j<26 then ⟨qn j,DW h⟩ else ⟨"q",by decide +kernel⟩
theorem DX(hi:i<26)(a:j<26)(e:qO i=qO j):i=j:=by
 unfold qO at e
 rw[dif_pos hi,dif_pos a] at e
 have e:=congrArg (λz:OkS=>z.1.cps.toList) e
 have e:(qn i).cps.toList=(qn j).cps.toList:=e
 unfold qn at e
 rw[Sj,Sj] at e
 have:=List.append_cancel_left e
 simp at this
 exact this
def DY(cs:List AV):Prop:=∃ c:Int,cs=[.d (.int c)]
def DZ(_:List AV)(r:AV):Prop:=∃ ns:List OkS,ns.length=4/\ns.Nodup/\r=oN ns
theorem D1(T:Txt K mg):Cal P w K mg base CX0 1 "_law_names" ["_law_cell_here"] [] (spR K DY DZ NP):=by
 refine Wm T.x_law_names Xs (λcs ⟨_,e⟩=>by rw[e];rfl) (λf Q A G s H E I=>?_) [] (by simp)
 refine⟨_,(Ze (Zp (i:=1) Xs.nd rfl (Or.inl rfl) Z6)
   (Ze (Zp (i:=2) Xs.nd rfl (Or.inl rfl) (ZZ Zb))
   (Ze (YY PassesOwn.never rfl (XM rfl T.n_range (Za Zc Zb)) (ZI (i:=3) Xs.nd rfl (Or.inl rfl))
    (Ze (Zp (i:=4) Xs.nd rfl (Or.inl rfl) Z6)
    (Ze (Zp (i:=5) Xs.nd rfl (Or.inl rfl) (Zl (Z8 (K:=K) rfl) Zc (Zl ZM (pv 0) Zc)))
    (Ze (Zp (i:=0) Xs.nd rfl (Or.inl rfl) (Zl Z7 (pv 0) Zc))
    (Ze (YY PassesOwn.never rfl (XM rfl T.n_range (Za (pv 5) Zb)) (ZI (i:=6) Xs.nd rfl (Or.inl rfl))
     (Ze (Zp (i:=4) Xs.nd rfl (Or.inl rfl) (Zl (Z8 (K:=K) rfl) (pv 4) (Zj (Zk (K:=K) rfl I.units) (pv 1) (Zl ZM (pv 0) Zc) (λ_ _=>rfl))))
     (Zh (Zp (i:=0) Xs.nd rfl (Or.inl rfl) (Zl Z7 (pv 0) Zc)))))
    (Ze (W4 (Zw XN (pv 3) Zc (nomark _))
     (Zh (Zp (i:=4) Xs.nd rfl (Or.inl rfl) (Zl (Z8 (K:=K) rfl) Z6 (Zj (Zk (K:=K) rfl I.units) (pv 1) (Zl Ue (pv 3) Zc) (λ_ _=>rfl)))))
     ZO)
    (Zh (W4 (PW.pt (UL (Zw Vt (ZA (ZS (K:=K) rfl) rfl T.n_len PySem.boot_len (Za (pv 2) Zb)) Zc (nomark _)) (UK (Zw (Tb (K:=K) rfl I.units) (pv 4) (Zl (Z8 (K:=K) rfl) (pv 2) (ZZ (Za Z6 (Za Z6 (Za Z6 (Za Z6 (Za Z6 (Za Z6 (Za Z6 Zb))))))))) (by with_unfolding_all rfl)))))
     (Zh (Yh (Y4 (K:=K) rfl PySem.F.plainAttrs_list PySem.F.slot_list_append PySem.F.type_list_append Xl (pv 2) (Za (pv 4) Zb))))
     ZO))))))))
   (Zh (Zq (pv 2)))))),?_⟩
 rintro cs ⟨c0,rfl⟩
 show Sv K _ _ _ [some (.d (.int c0)),none,none,none,none,none,none] _
 w_on
 refine Wh ?_
 w_on
 refine⟨30,rfl,⟨by decide,by decide⟩,λi m=>∃ (c:Int) (ns:List OkS) (B v u n:Option AV),m=[some (.d (.int c)),some (.d (.str abc)),some (oN ns),B,v,u,n]/\ns.length<=4/\ns.Nodup/\(ns.length=4\/∀ j,j+4<i->qO j∈ns++kwO),⟨c0,[],none,none,none,none,rfl,by simp,by simp,.inr λj q=>by omega⟩,?_,?_⟩
 ·rintro i m hi ⟨c,ns,B,v,u,n,rfl,hl,nd,hq⟩
  w_on
  refine Wh ?_
  w_on
  refine⟨1+c%6,rfl,⟨by omega,by omega⟩,λk m=>∃ (F:Int) (z:Str) (n:Option AV),m=[some (.d (.int F)),some (.d (.str abc)),some (oN ns),some (.d (.int i)),some (.d (.str z)),some (.d (.int (1+c%6))),n]/\z.length=k/\(∀ x∈z.cps.toList,x<0x110000),⟨c / 6, "",n,rfl,rfl,by decide +kernel⟩,?_,?_⟩
  ·rintro k m hk ⟨F,z,n,rfl,hz,C⟩
   w_on
   refine RO (c:=97+(F % 26).toNat) rfl (by decide +kernel) (Lh (by omega)) ?_
   refine OY rfl rfl (by show z.length+1<=1000000;omega) ?_
   w_on
   exact⟨_,_,_,rfl,by show (z++_).cps.size=_;rw[<- Array.length_toList,Sj,List.length_append,Array.length_toList,show z.cps.size=k from hz];rfl,Lg C (Li (by omega))⟩
  rintro m ⟨F,z,n,rfl,hz,C⟩
  refine Rc ?_
  refine W5 (λm=>∃ y:OkS,m=[some (.d (.int F)),some (.d (.str abc)),some (oN ns),some (.d (.int i)),some (.d (dS y)),some (.d (.int (1+c%6))),n]/\∀ j,i=j+4->y=qO j) ?_ ?_
  case refine_2 =>
   w_on
   refine ite2 (λp=>?_) λp=>?_
   ·have p:(3:Int)<i:=of_decide_eq_true p
    have J:i-4<26:=by omega
    w_on
    refine RO (c:=97+(i-4)) rfl (by decide +kernel) (by
     have:=Lh (k:=(i:Int)-4) (by omega)
     rw[show ((i:Int)-4).toNat=i-4 by omega] at this
     exact this) ?_
    refine OY rfl rfl (by show 1+1<=1000000;decide) ?_
    w_on
    refine⟨qO (i-4),?_,λj q=>by rw[q];rfl⟩
    unfold qO
    rw[dif_pos J]
    rfl
   ·have p:¬ (3:Int)<i:=λz=>p (decide_eq_true z)
    w_on
    exact⟨⟨z,Le C⟩,rfl,λj q=>by omega⟩
  rintro m ⟨y,rfl,hy⟩
  refine W5 (λm=>∃ (c:Int) (ns:List OkS) (B v u n:Option AV),m=[some (.d (.int c)),some (.d (.str abc)),some (oN ns),B,v,u,n]/\ns.length<=4/\ns.Nodup/\(ns.length=4\/∀ j,j+4<i+1->qO j∈ns++kwO)) (λm h=>h) ?_
  have old:y∈ns++kwO->ns.length=4\/∀ j,j+4<i+1->qO j∈ns++kwO:=λh=>hq.imp id λg j q=>by
   rcases (by omega:j+4<i\/i=j+4) with e|e
   ·exact g j e
   ·rw[<- hy j e];exact h
  w_on
  refine Z9 (ds:=ns.map dS) (Sk ns) ?_
  rw[length_map]
  w_on
  refine ite2 (λp=>?_) λp=>?_
  case refine_2 =>
   have p:¬ (ns.length:Int)<4:=λz=>p (decide_eq_true z)
   w_on
   exact⟨_,ns,_,_,_,_,rfl,hl,nd,.inl (by omega)⟩
  have p:(ns.length:Int)<4:=of_decide_eq_true p
  w_on
  refine Yj ?_
  w_on
  refine⟨[.d (.str "some"),.d (.str "all"),.d (.str "not"),.d (.str "and"),.d (.str "or"),.d (.str "is"),.d (.str "like")],.cons rfl (.cons rfl (.cons rfl (.cons rfl (.cons rfl (.cons rfl (.cons rfl .nil)))))),by show 7<=1000;decide,?_⟩
  refine Rk (ds:=ns.map dS) (es:=kwO.map dS) (Sk ns) rfl (Kp.flat (XR (λ_=>rfl) _)) (Kp.flat (XR (λ_=>rfl) _)) (by rw[length_map];show _+7<=_;omega) ?_
  refine IS (f:=dS) (c:=y) (xs:=ns++kwO) Enc.str rfl (.inl (by rw[<- map_append,map_map];exact Sk (ns++kwO))) ?_
  refine⟨_,rfl,?_⟩
  refine ite2 (λr=>?_) λr=>?_
  ·have r:y∉ns++kwO:=by simpa using r
   w_on
   refine XV (by rw[length_map];omega) ?_
   w_on
   refine⟨_,ns++[y],_,_,_,_,by rw[oN,map_append];rfl,by rw[List.length_append];show _+1<=4;omega,?_,hq.imp (λz=>by omega) λg j q=>?_⟩
   ·rw[List.nodup_append]
    exact⟨nd,by simp,λa O b M e=>r (mem_append_left _ (by rw[mem_singleton] at M;rw[<- M,<- e];exact O))⟩
   ·rcases (by omega:j+4<i\/i=j+4) with e|e
    ·rcases mem_append.mp (g j e) with z|z
     ·exact mem_append_left _ (mem_append_left _ z)
     ·exact mem_append_right _ z
    ·rw[<- hy j e]
     exact mem_append_left _ (mem_append_right _ (.head _))
  ·have r:y∈ns++kwO:=Classical.byContradiction λz=>r (by simpa using z)
   w_on
   exact⟨_,ns,_,_,_,_,rfl,hl,nd,old r⟩
 ·rintro m ⟨c,ns,B,v,u,n,rfl,hl,nd,hq⟩
  w_on
  refine⟨oN ns,Wl rfl,ns,?_,nd,rfl⟩
  rcases hq with e|g
  ·exact e
  ·refine Classical.byContradiction λN=>?_
   have h:=Ld (L:=(List.range 26).map qO) (U:=ns++kwO) (pairwise_map.mpr (List.Pairwise.imp_of_mem (λ{i j} hi q hlt e=>by
    have:=DX (mem_range.mp hi) (mem_range.mp q) e
    omega) List.pairwise_lt_range)) λx C=>by
    obtain⟨j,q,rfl⟩:=mem_map.mp C
    exact g j (by have:=mem_range.mp q;omega)
   rw[length_map,length_range,List.length_append,show kwO.length=7 from rfl] at h
   omega
theorem D2(hb:2<=b/\b<=5)(h:m<=n):b ^ m<=b ^ n:=by
 obtain⟨k,rfl⟩:=Nat.exists_eq_add_of_le h
 rw[Int.pow_add]
 have c:=Xh hb m
 have a:=Xh hb k
 have:b ^ m*1<=b ^ m*b ^ k:=Int.mul_le_mul_of_nonneg_left a (by omega)
 omega
variable{us:List OkS}
theorem Sm{xs:List OkS}(hb:2<=b/\b<=5)(a:Nrw b us)(o:OnceN xs ns)(h:∀ c∈xs,c∈us):Nrw b ns:=by
 have e:ns.length<=us.length:=XE o.d λc f=>h c ((o.m c).mp f)
 exact⟨Nat.le_trans e a.1,Int.le_trans (D2 hb e) a.2⟩
structure Ro(b:Int)(us ns:List OkS)(N:Mach)(k:Nat)(F:List (OkS->Int)->Prop):Prop where
 mn:Mn b ns N F
 u:∀ c∈ns,c∈us
 k:N.rows.length<=k
section
variable{A B:Mach}{F G:List (OkS->Int)->Prop}{g:Int->Int->Int}{op:Prop->Prop->Prop}{k:Nat}
def Dt(b:Int)(ns na nc:List OkS)(A B N:Mach):Prop:=∀ w v,Dgb (b ^ ns.length) w->Dgb (b ^ ns.length) v->rm A.rows (w.map (phi b ns na))=rm A.rows (v.map (phi b ns na))->rm B.rows (w.map (phi b ns nc))=rm B.rows (v.map (phi b ns nc))->rm N.rows w=rm N.rows v
theorem Lj(i:gOk g)(h:∀ x y,(x=0\/x=1)->(y=0\/y=1)->(g x y=1↔op (x=1) (y=1)))(e:Mn b na A F)(a:Mn b nc B G)(pr:PrOk b na nc A B g U)
  (q:∀ ns N,Mn b ns N (λcs=>op (F cs) (G cs))->(∀ c,c∈ns↔c∈na\/c∈nc)->N.rows.length<=U.length->Dt b ns na nc A B N->Q (.av (.d (Zr b ns N)))):∃ θ,ClR (Sg g θ) (V1 θ) NP [] Q X [.av (.d (Zr b na A)),.av (.d (Zr b nc B))] :=
 ⟨⟨b,na,nc,A,B,g,U⟩,[.d (Zr b na A),.d (Zr b nc B)],.cons (.d NR.av rfl) (.cons (.d NR.av rfl) .nil),⟨pr,rfl,rfl⟩,λd ⟨ns,N,o,hN,ed⟩=>by
  subst ed
  obtain⟨n,m,j⟩:=Mz pr o (e.1.sgs a.1 i) hN
  refine⟨_,Got.own (YT _ _ _),q ns N ⟨n,λcs f=>?_⟩ (λc=>(o.m c).trans mem_append) (QT hN) m⟩
  have r:Dgb (bs A) (wC b na cs):=by rw[show bs A=_ from e.1.lt];exact V2 e.1.hb f
  have p:Dgb (bs B) (wC b nc cs):=by rw[show bs B=_ from a.1.lt];exact V2 a.1.hb f
  rw[j cs f,h _ _ (e.1.b1 _ (V3 e.1.p r)) (a.1.b1 _ (V3 a.1.p p)),propext (e.2 cs f),propext (a.2 cs f)],λ_ z=>z.elim⟩
theorem Z2(s:Nrw b us)(m:gOk g)(h:∀ x y,(x=0\/x=1)->(y=0\/y=1)->(g x y=1↔op (x=1) (y=1)))(a:Ro b us na A j F)(e:Ro b us nc B k G)(hn:j*k<=100)
  (q:∀ ns N,Ro b us ns N (j*k) (λcs=>op (F cs) (G cs))->(∀ c,c∈ns↔c∈na\/c∈nc)->Dt b ns na nc A B N->Q (.av (.d (Zr b ns N)))):∃ θ,ClR (Sg g θ) (V1 θ) NP [] Q X [.av (.d (Zr b na A)),.av (.d (Zr b nc B))]:=by
 have f:=Nat.mul_le_mul a.k e.k
 have n:=a.mn.1.hb
 refine Lj m h a.mn e.mn (PrOk.of n a.mn.1.n.1 e.mn.1.n.1 (λns o=>Sm n s o λc i=>(mem_append.mp i).elim (a.u c) (e.u c)) a.mn.1.p e.mn.1.p a.mn.1.lt e.mn.1.lt (Nat.le_trans f hn) (a.mn.1.g9 e.mn.1 m)) λns N v r p u=>q ns N ⟨v,λc i=>((r c).mp i).elim (a.u c) (e.u c),?_⟩ r u
 rw[T6] at p
 exact Nat.le_trans p f
theorem YU:gOk V4:=λx y b a=>by unfold V4;split<;>assumption
theorem YI:gOk Vk:=λx y b a=>by unfold Vk;split<;>assumption
theorem YV:∀ x y:Int,(x=0\/x=1)->(y=0\/y=1)->(V4 x y=1↔(x=1/\y=1)):=λx y b a=>by
 rcases b with rfl|rfl<;>rcases a with rfl|rfl<;>decide
theorem YW:∀ x y:Int,(x=0\/x=1)->(y=0\/y=1)->(Vk x y=1↔(x=1\/y=1)):=λx y b a=>by
 rcases b with rfl|rfl<;>rcases a with rfl|rfl<;>decide
theorem Xv(h:Rn b ns N)(q:Q (.av (.d (Zr b ns (noM N))))):Cl S_no [] Q [.av (.d (Zr b ns N))] :=
 ZV (by walk_at "nrs") ⟨b,ns,N,rfl,by have:=h.p.s;have:=h.p.n1;omega,rfl⟩ (Got.own (YT _ _ _)) q
theorem Ro.no(h:Ro b us ns N k F):Ro b us ns (noM N) k λcs=>¬ F cs:=⟨T8 h.mn,h.u,h.k⟩
theorem Q0(a:Parts 1 64 M)(hb:2<=bs M/\bs M<=5)(q:∀ N,XI M s N->Q (.av (.d (Zr (bs M) [nm] N)))):ClR MD ME NP [] Q X [.av (.d (dM M)),.av (.d (dS nm)),.av (.d (.int s))] :=
 ⟨[.d (dM M),.d (dS nm),.d (.int s)],.cons (.d NR.av rfl) (.cons (.d NR.av rfl) (.cons (.d NR.av rfl) .nil)),⟨M,nm,s,rfl,a,hb⟩,λd ⟨M',nm',s',N,e,hN,ed⟩=>by
  obtain⟨rfl,rfl,rfl⟩:=Dy (by simpa using e)
  subst ed
  exact⟨_,Got.own (YT _ _ _),q N hN⟩,λ_ z=>z.elim⟩
theorem Sn(h:SlOk M N)(q:∀ ns L,Sa M N a c ns L->Q (.av (.d (Zr (bs M) ns L)))):ClR MM MN NP [] Q X [.av (.d (dM M)),.av (.d (dS a)),.av (.d (dM N)),.av (.d (dS c))] :=
 ⟨[.d (dM M),.d (dS a),.d (dM N),.d (dS c)],.cons (.d NR.av rfl) (.cons (.d NR.av rfl) (.cons (.d NR.av rfl) (.cons (.d NR.av rfl) .nil))),⟨M,a,N,c,rfl,h⟩,λd ⟨M',a',N',c',ns,L,e,hL,ed⟩=>by
  obtain⟨rfl,rfl,rfl,rfl⟩:=DC (by simpa using e)
  subst ed
  exact⟨_,Got.own (YT _ _ _),q ns L hL⟩,λ_ z=>z.elim⟩
theorem D4{p:Int}(hb:2<=b/\b<=5)(c:0<=p/\p<b)(q:∀ N,Ys (thI b (figs b p)) (sgI (figs b p)) N->Q (.av (.d (Zr b [nm] N)))):ClR M4 QX NP [] Q X [.av (.d (.int b)),.av (.d (dS nm)),.av (.d (.int p))] :=
 ⟨[.d (.int b),.d (dS nm),.d (.int p)],.cons (.d NR.av rfl) (.cons (.d NR.av rfl) (.cons (.d NR.av rfl) .nil)),⟨b,nm,p,rfl,hb,c⟩,λd ⟨b',nm',p',N,e,hN,ed⟩=>by
  simp only[append_nil,List.cons.injEq,AV.d.injEq,PyData.int.injEq,and_true] at e
  obtain⟨rfl,a,rfl⟩:=e
  have a:nm=nm':=Subtype.ext (PyData.str.inj a)
  subst a ed
  exact⟨_,Got.own (YT _ _ _),q N hN⟩,λ_ z=>z.elim⟩
theorem D5{q':Bool}(e:wdS q=wdS q'):q=q':=by
 cases q<;>cases q'<;>first|rfl|exact absurd e (by decide +kernel)
theorem UH{l:List OkS}{c t2 a:TV}(hb:2<=b/\b<=5)(n1:NR c)(u:c.data=.list (l.map dS))(j:NR t2)(s:t2.data=.list (r.map dS))(i:NR a)(p:a.data=.str (wdS q))(hl:l.length<=3)(m:r.length<=3)(n:∀ ns,OnceN (l++r) ns->Nrw b ns)(k:∀ ns N,OnceN (l++r) ns->Ys (thS b ns l r) (sgS q) N->Q (.av (.d (Zr b ns N)))):ClR MT MU NP [] Q X [.av (.d (.int b)),c,t2,a] :=
 ⟨[.d (.int b),.d (.list (l.map dS)),.d (.list (r.map dS)),.d (.str (wdS q))],.cons (.d NR.av rfl) (.cons (.d n1 u) (.cons (.d j s) (.cons (.d i p) .nil))),⟨b,l,r,q,rfl,hl,m,hb,n⟩,λd ⟨b',l',r',q',ns,N,e,o,hN,ed⟩=>by
  simp only[append_nil,List.cons.injEq,AV.d.injEq,PyData.int.injEq,and_true] at e
  obtain⟨rfl,h,g,f⟩:=e
  have h:=QQ h
  have g:=QQ g
  have f:=D5 (PyData.str.inj f)
  subst h g f ed
  exact⟨_,Got.own (YT _ _ _),k ns N o hN⟩,λ_ z=>z.elim⟩
end
inductive Lf where
 | sign (i:Int) (n:OkS) (s:Int)
 | like (i:Int) (n:OkS) (j:Int) (m:OkS)
 | place (n:OkS) (p:Int)
 | sum (l:List OkS) (m:OkS) (q:Bool)
def sSg:OkS:=⟨"sign",by decide +kernel⟩
def sLk:OkS:=⟨"like",by decide +kernel⟩
def sPl:OkS:=⟨"place",by decide +kernel⟩
def sSu:OkS:=⟨"sum",by decide +kernel⟩
theorem V5(h:(a.1 == c.1)=false):¬ a=c:=λe=>by
 subst e
 rw[beq_self_eq_true] at h
 cases h
def Lf.D:Lf->PyData
 | .sign i n s=>.tuple [dS sSg,.int i,dS n,.int s]
 | .like i n j m=>.tuple [dS sLk,.int i,dS n,.int j,dS m]
 | .place n p=>.tuple [dS sPl,dS n,.int p]
 | .sum l m q=>.tuple [dS sSu,.list (l.map dS),.list ([m].map dS),.str (wdS q)]
def Lf.Ok(b:Int)(us:List OkS):Lf->Prop
 | .sign i n s=>(i=0\/i=1)/\n∈us
 | .like i n j m=>(i=0\/i=1)/\n∈us/\(j=0\/j=1)/\m∈us
 | .place n p=>n∈us/\0<=p/\p<b
 | .sum l m q=>(∀ c∈l,c∈us)/\l.length<=2/\m∈us
theorem pick(h:0<us.length)(x:Int):∃ n∈us,atI (us.map dS) (x%(us.length:Nat))=some (dS n):=by
 have c:=Int.emod_nonneg x (show ((us.length:Nat):Int)≠0 by omega)
 have e:=Int.emod_lt_of_pos x (show (0:Int)<(us.length:Nat) by omega)
 obtain⟨j,b⟩:∃ j:Nat,x%(us.length:Nat)=j:=⟨_,(Int.toNat_of_nonneg c).symm⟩
 have a:j<us.length:=by omega
 refine⟨us[j],getElem_mem a,?_⟩
 rw[b]
 exact Vv (by rw[getElem?_map,getElem?_eq_getElem a];rfl)
abbrev dRr(M N:Mach):PyData:=.list [dM M,dM N]
def D8(θ:Int×List OkS)(cs:List AV):Prop:=∃ (ns:List Int) (k:Int) (M N:Mach),cs=[.d (dI ns),.d (.int k),.d (.int θ.1),.d (.list (θ.2.map dS)),.d (dRr M N)]/\(0<=k/\k<900)/\(2<=θ.1/\θ.1<=5)/\0<θ.2.length/\θ.2.length<=4
def Ca(θ:Int×List OkS)(_:List AV)(c:AV):Prop:=∃ L:Lf,L.Ok θ.1 θ.2/\c=.d L.D
theorem Cb(T:Txt K mg):Cal P w K mg base CX0 2 "_law_leaf" ["_law_script", "_law_at", "_law_base", "_law_names_here", "_law_rows"] [] (spF K D8 Ca):=by
 have c_law_cell:Cal P w K mg base _ _ _ _ _ _:=QZ T
 refine Ws T.x_law_leaf UA (λp cs ⟨_,_,_,_,e,_⟩=>by rw[e];rfl) (λp f L A h s H E a=>?_) [] (by simp)
 refine⟨_,(Ze (Zp (i:=5) UA.nd rfl (Or.inl rfl) (Zg (c_law_cell.mono (by decide)) a rfl pass0 (Za (pv 0) (Za (pv 1) Zb))))
   (Ze (Zp (i:=6) UA.nd rfl (Or.inl rfl) (Zj (Zk (K:=K) rfl a.units) (pv 3) (Zl ZM (Zl Z7 (pv 5) Zc) (ZA (ZS (K:=K) rfl) rfl T.n_len PySem.boot_len (Za (pv 3) Zb))) (λ_ _=>rfl)))
   (Ze (Zp (i:=7) UA.nd rfl (Or.inl rfl) (Zj (Zk (K:=K) rfl a.units) (pv 3) (Zl ZM (Zl Z7 (pv 5) Zc) (ZA (ZS (K:=K) rfl) rfl T.n_len PySem.boot_len (Za (pv 3) Zb))) (λ_ _=>rfl)))
   (Ze (Z3 (Zw (Yu (K:=K) rfl a.units) (Zl ZM (pv 5) Zc) Zc (nomark _))
    (Zh (Zq (Yd (Za Z6 (Za (Zl ZM (Zl Z7 (pv 5) Zc) Zc) (Za (pv 6) (Za (Zl ZM (Zl Z7 (pv 5) Zc) (Zj (Zk (K:=K) rfl a.units) (ZZ (Za Zc (Za Zc Zb))) (Zl ZM (Zl Z7 (pv 5) Zc) Zc) (λ_ _=>rfl))) Zb)))))))
    ZO)
   (Ze (Z3 (Zw (Yu (K:=K) rfl a.units) (Zl ZM (pv 5) Zc) Zc (nomark _))
    (Zh (Zq (Yd (Za Z6 (Za (Zl ZM (Zl Z7 (pv 5) Zc) Zc) (Za (pv 6) (Za (Zl ZM (Zl Z7 (pv 5) Zc) Zc) (Za (pv 7) Zb))))))))
    ZO)
   (Ze (Z3 (Zw (Yu (K:=K) rfl a.units) (Zl ZM (pv 5) Zc) Zc (nomark _))
    (Zh (Zq (Yd (Za Z6 (Za (pv 6) (Za (Zl ZM (Zl Z7 (pv 5) Zc) (pv 2)) Zb))))))
    ZO)
   (Ze (Zp (i:=8) UA.nd rfl (Or.inl rfl) (Zj (Zk (K:=K) rfl a.units) (pv 3) (Zl ZM (Zl Z7 (pv 5) Zc) (ZA (ZS (K:=K) rfl) rfl T.n_len PySem.boot_len (Za (pv 3) Zb))) (λ_ _=>rfl)))
   (Zh (Zq (Yd (Za Z6 (Za (Zj (Zk (K:=K) rfl a.units) (ZZ (Za (ZZ (Za (pv 6) Zb)) (Za (ZZ (Za (pv 6) (Za (pv 8) Zb))) Zb))) (Zl ZM (Zl Z7 (pv 5) Zc) Zc) (λ_ _=>rfl)) (Za (ZZ (Za (pv 7) Zb)) (Za (Zj (Zk (K:=K) rfl a.units) Z6 (Zl ZM (Zl Z7 (pv 5) Zc) Zc) (λ_ _=>rfl)) Zb)))))))))))))),?_⟩
 rintro cs ⟨ns,k,M,N,rfl,hk,hb,hl0,hl⟩
 obtain⟨b,us⟩:=p
 replace hb:2<=b/\b<=5:=hb
 replace hl0:0<us.length:=hl0
 replace hl:us.length<=4:=hl
 show Sv K _ _ _ [some (.d (dI ns)),some (.d (.int k)),some (.d (.int b)),some (.d (.list (us.map dS))),some (.d (dRr M N)),none,none,none,none] _
 w_on
 refine Si hk λc=>?_
 w_on
 refine Z9 rfl ?_
 rw[length_map]
 w_on
 obtain⟨n,g,en⟩:=pick hl0 (c / 4)
 refine ZL rfl en Zs.d ?_
 w_on
 refine Z9 rfl ?_
 rw[length_map]
 w_on
 obtain⟨m,r,I⟩:=pick hl0 (c / 16)
 refine ZL rfl I Zs.d ?_
 w_on
 refine ite2 (λR=>?_) λR=>?_
 ·w_on
  refine Yg ?_
  w_on
  refine Yj ?_
  w_on
  refine⟨[.d (.int 3),.d (.int 10)],.cons rfl (.cons rfl .nil),by show 2<=1000;decide,?_⟩
  w_on
  obtain⟨d,S,J⟩:∃ d:Int,0<d/\atI [PyData.int 3,.int 10] (c / 1280%2)=some (.int d):=by
   rcases (by omega:c / 1280%2=0\/c / 1280%2=1) with e|e<;>rw[e]
   ·exact⟨3,by decide,rfl⟩
   ·exact⟨10,by decide,rfl⟩
  refine ZL rfl J (Zs.flat rfl) ?_
  w_on
  exact⟨[.d (dS sSg),.d (.int (c / 64%2)),.d (dS n),.d (.int (c / 128%d))],.cons rfl (.cons rfl (.cons rfl (.cons rfl .nil))),by show 4<=1000;decide,_,Zt rfl,.sign (c / 64%2) n (c / 128%d),⟨by omega,g⟩,rfl⟩
 w_on
 refine ite2 (λQ=>?_) λQ=>?_
 ·w_on
  refine Yg ?_
  w_on
  exact⟨[.d (dS sLk),.d (.int (c / 64%2)),.d (dS n),.d (.int (c / 128%2)),.d (dS m)],.cons rfl (.cons rfl (.cons rfl (.cons rfl (.cons rfl .nil)))),by show 5<=1000;decide,_,Zt rfl,.like (c / 64%2) n (c / 128%2) m,⟨by omega,g,by omega,r⟩,rfl⟩
 w_on
 refine ite2 (λO=>?_) λO=>?_
 ·w_on
  refine Yg ?_
  w_on
  exact⟨[.d (dS sPl),.d (dS n),.d (.int (c / 64%b))],.cons rfl (.cons rfl (.cons rfl .nil)),by show 3<=1000;decide,_,Zt rfl,.place n (c / 64%b),⟨g,Int.emod_nonneg _ (by omega),Int.emod_lt_of_pos _ (by omega)⟩,rfl⟩
 w_on
 refine Z9 rfl ?_
 rw[length_map]
 w_on
 obtain⟨t,v,G⟩:=pick hl0 (c / 64)
 refine ZL rfl G Zs.d ?_
 w_on
 refine Yg ?_
 w_on
 refine Yj ?_
 w_on
 refine Yj ?_
 w_on
 refine⟨[.d (dS n)],.cons rfl .nil,by show 1<=1000;decide,?_⟩
 w_on
 refine Yj ?_
 w_on
 refine⟨[.d (dS n),.d (dS t)],.cons rfl (.cons rfl .nil),by show 2<=1000;decide,?_⟩
 w_on
 refine⟨[.own [.d (dS n)],.own [.d (dS n),.d (dS t)]],.cons rfl (.cons rfl .nil),by show 2<=1000;decide,?_⟩
 w_on
 obtain⟨j,l,y,u,C,B⟩:∃ (j:Nat) (l:List OkS),ixN 2 (c / 256%2)=some j/\[AV.own [.d (dS n)],.own [.d (dS n),.d (dS t)]][j]?=some (.own (l.map λz=>.d (dS z)))/\(∀ c∈l,c∈us)/\l.length<=2:=by
  rcases (by omega:c / 256%2=0\/c / 256%2=1) with e|e<;>rw[e]
  ·exact⟨0,[n],rfl,rfl,by simpa using g,by show 1<=2;decide⟩
  ·exact⟨1,[n,t],rfl,rfl,by simpa using ⟨g,v⟩,by show 2<=2;decide⟩
 refine Gb y u ?_
 w_on
 refine Yj ?_
 w_on
 refine⟨[.d (dS m)],.cons rfl .nil,by show 1<=1000;decide,?_⟩
 w_on
 obtain⟨q,x,ex,F⟩:∃ (q:Bool) (x:Nat),atI ("=<" : Str).cps.toList (c / 512%2)=some x/\(⟨#[x]⟩:Str)=wdS q:=by
  rcases (by omega:c / 512%2=0\/c / 512%2=1) with e|e<;>rw[e]
  ·exact⟨true,61,by decide +kernel,by decide +kernel⟩
  ·exact⟨false,60,by decide +kernel,by decide +kernel⟩
 refine RO rfl (by decide +kernel) ex ?_
 rw[F]
 w_on
 exact⟨[.d (dS sSu),.own (l.map λz=>.d (dS z)),.own [.d (dS m)],.d (.str (wdS q))],.cons rfl (.cons rfl (.cons rfl (.cons rfl .nil))),by show 4<=1000;decide,_,.inr ⟨NR.av,rfl⟩,.sum l m q,⟨C,B,r⟩,by show AV.d (.tuple [_,.list (AV.datas _),_,_])=.d (.tuple [_,_,_,_]);rw[Yq];rfl⟩
structure Md(b:Int)(M:Mach):Prop where
 p:Parts 1 64 M
 b:bs M=b
 n:M.rows.length<=2
 s:∀ x∈M.signs,0<=x/\x<3
structure MdIx where
 b:Int
 us:List OkS
 M:Mach
 N:Mach
 L:Lf
def Cc(i:MdIx)(cs:List AV):Prop:=cs=[.d i.L.D,.d (.int i.b),.d (dRr i.M i.N)]/\(2<=i.b/\i.b<=5)/\Nrw i.b i.us/\i.L.Ok i.b i.us/\Md i.b i.M/\Md i.b i.N
def Cd(i:MdIx)(_:List AV)(c:AV):Prop:=∃ ns N F,Ro i.b i.us ns N 4 F/\c=.d (Zr i.b ns N)
theorem Md.at(h:Md b M)(g:Md b N){i:Int}(hi:i=0\/i=1):∃ A,Md b A/\atI [dM M,dM N] i=some (dM A):=by
 rcases hi with rfl|rfl
 ·exact⟨M,h,rfl⟩
 ·exact⟨N,g,rfl⟩
theorem Md.sl(hb:2<=b/\b<=5)(h:Md b M)(g:Md b N):SlOk M N:=⟨h.p,g.p,by rw[h.b];exact hb,by have c:=h.b;have a:=g.b;have c:((ltr M:Nat):Int)=b:=c;have a:((ltr N:Nat):Int)=b:=a;omega,Nat.le_trans (Nat.mul_le_mul h.n g.n) (by decide)⟩
theorem So{L:Mach}(hb:2<=b/\b<=5)(h:Md b M)(g:Md b N)(q:a∈us)(p:c∈us)(o:Sa M N a c ns L):Ro b us ns L 4 (λcs=>sgw M (wC b [a] cs)=sgw N (wC b [c] cs))/\∀ x,x∈ns↔x=a\/x=c:=by
 have r:=h.sl hb g
 obtain⟨m,i⟩:=DD r o
 obtain⟨_,A,B,v,u,s⟩:=o
 have f:=QT s
 have f:L.rows.length<=(Xu A.rows.length B.rows.length).length:=f
 rw[T6] at f
 have j:=Nat.mul_le_mul (Nat.le_trans v.le h.n) (Nat.le_trans u.le g.n)
 rw[h.b] at m
 exact⟨⟨m,λx n=>((i x).mp n).elim (λe=>e▸q) λe=>e▸p,Nat.le_trans f j⟩,i⟩
theorem Q1(hb:2<=b/\b<=5)(h:Md b M)(hn:nm∈us)(o:XI M s N):Ro b us [nm] N 2 (λcs=>sgw M (wC b [nm] cs)=s):=by
 obtain⟨m,l⟩:=DE (nm:=nm) h.p (by rw[h.b];exact hb) o
 rw[h.b] at m
 exact⟨m,λc a=>by rw[mem_singleton.mp a];exact hn,Nat.le_trans l h.n⟩
theorem Ce(T:Txt K mg)(B:base.BuiltinsAt mg mainGlobals)(u:∀ p∈ts0,p∈Tabs.ts):Cal P w K mg base CX0 11 "_law_leaf_made" ["_law_leaf_here", "_law_base", "_law_rows"] [] (spF K Cc Cd):=by
 have c_sign_is:Cal P w K mg base _ _ _ _ _ _:=MH T B u
 have c_signs_like:Cal P w K mg base _ _ _ _ _ _:=MO T B u
 have c_place_is:Cal P w K mg base _ _ _ _ _ _:=DR T B u
 have c_sums:Cal P w K mg base _ _ _ _ _ _:=MV T B u
 refine Ws T.x_law_leaf_made FR (λQ cs ⟨e,_⟩=>by rw[e];rfl) (λQ f Z A G s H E a=>?_) [] (by simp)
 refine⟨_,(Ze (Z3 (Zw (Yu (K:=K) rfl a.units) (Zj (Zk (K:=K) rfl a.units) (pv 0) Zc (λ_ _=>rfl)) Z6 (nomark _))
    (Zh (Zq (Zg (c_sign_is.mono (by decide)) a rfl pass0 (Za (Zj (Zk (K:=K) rfl a.units) (pv 2) (Zj (Zk (K:=K) rfl a.units) (pv 0) Zc (λ_ _=>rfl)) (λ_ _=>rfl)) (Za (Zj (Zk (K:=K) rfl a.units) (pv 0) Zc (λ_ _=>rfl)) (Za (Zj (Zk (K:=K) rfl a.units) (pv 0) Zc (λ_ _=>rfl)) Zb))))))
    ZO)
   (Ze (Z3 (Zw (Yu (K:=K) rfl a.units) (Zj (Zk (K:=K) rfl a.units) (pv 0) Zc (λ_ _=>rfl)) Z6 (nomark _))
    (Zh (Zq (Zg (c_signs_like.mono (by decide)) a rfl pass0 (Za (Zj (Zk (K:=K) rfl a.units) (pv 2) (Zj (Zk (K:=K) rfl a.units) (pv 0) Zc (λ_ _=>rfl)) (λ_ _=>rfl)) (Za (Zj (Zk (K:=K) rfl a.units) (pv 0) Zc (λ_ _=>rfl)) (Za (Zj (Zk (K:=K) rfl a.units) (pv 2) (Zj (Zk (K:=K) rfl a.units) (pv 0) Zc (λ_ _=>rfl)) (λ_ _=>rfl)) (Za (Zj (Zk (K:=K) rfl a.units) (pv 0) Zc (λ_ _=>rfl)) Zb)))))))
    ZO)
   (Ze (Z3 (Zw (Yu (K:=K) rfl a.units) (Zj (Zk (K:=K) rfl a.units) (pv 0) Zc (λ_ _=>rfl)) Z6 (nomark _))
    (Zh (Zq (Zg (c_place_is.mono (by decide)) a rfl pass0 (Za (pv 1) (Za (Zj (Zk (K:=K) rfl a.units) (pv 0) Zc (λ_ _=>rfl)) (Za (Zj (Zk (K:=K) rfl a.units) (pv 0) Zc (λ_ _=>rfl)) Zb))))))
    ZO)
   (Zh (Zq (Zg (c_sums.mono (by decide)) a rfl pass0 (Za (pv 1) (Za (Yk (P3 (K:=K) rfl) rfl T.n_list PyProof.Rows.boot_list (Za (Zj (Zk (K:=K) rfl a.units) (pv 0) Zc (λ_ _=>rfl)) Zb)) (Za (Yk (P3 (K:=K) rfl) rfl T.n_list PyProof.Rows.boot_list (Za (Zj (Zk (K:=K) rfl a.units) (pv 0) Zc (λ_ _=>rfl)) Zb)) (Za (Zj (Zk (K:=K) rfl a.units) (pv 0) Zc (λ_ _=>rfl)) Zb)))))))))),?_⟩
 rintro cs ⟨rfl,hb,hu,g,hM,hN⟩
 obtain⟨b,us,M,N,L⟩:=Q
 replace hb:2<=b/\b<=5:=hb
 replace hu:Nrw b us:=hu
 replace g:L.Ok b us:=g
 replace hM:Md b M:=hM
 replace hN:Md b N:=hN
 show Sv K _ _ _ [some (.d L.D),some (.d (.int b)),some (.d (dRr M N))] _
 cases L with
 | sign i n s =>
  obtain⟨J,x⟩:=g
  show Sv K _ _ _ [some (.d (.tuple [dS sSg,.int i,dS n,.int s])),some (.d (.int b)),some (.d (dRr M N))] _
  o_law
  refine Y8 (f:=dS) (c:=sSg) (d:=sSg) Enc.str rfl rfl ?_
  refine⟨_,rfl,?_⟩
  refine SY rfl ?_
  o_law
  obtain⟨A,v,O⟩:=hM.at hN J
  refine ZL rfl O Zs.d ?_
  o_law
  refine Q0 v.p (by rw[v.b];exact hb) λL g=>?_
  have h:=Q1 hb v x g
  rw[v.b]
  exact⟨_,Zt rfl,_,_,_,⟨h.mn,h.u,Nat.le_trans h.k (by decide)⟩,rfl⟩
 | like i n j m =>
  obtain⟨J,x,X,F⟩:=g
  show Sv K _ _ _ [some (.d (.tuple [dS sLk,.int i,dS n,.int j,dS m])),some (.d (.int b)),some (.d (dRr M N))] _
  o_law
  refine Y8 (f:=dS) (c:=sLk) (d:=sSg) Enc.str rfl rfl ?_
  refine⟨_,rfl,?_⟩
  refine Y2 (V5 (by decide +kernel)) ?_
  o_law
  refine Y8 (f:=dS) (c:=sLk) (d:=sLk) Enc.str rfl rfl ?_
  refine⟨_,rfl,?_⟩
  refine SY rfl ?_
  o_law
  obtain⟨A,v,O⟩:=hM.at hN J
  obtain⟨C,W,Y⟩:=hM.at hN X
  refine ZL rfl O Zs.d ?_
  o_law
  refine ZL rfl Y Zs.d ?_
  o_law
  refine Sn (v.sl hb W) λns L g=>?_
  have h:=(So hb v W x F g).1
  rw[v.b]
  exact⟨_,Zt rfl,_,_,_,h,rfl⟩
 | place n p =>
  obtain⟨x,R⟩:=g
  show Sv K _ _ _ [some (.d (.tuple [dS sPl,dS n,.int p])),some (.d (.int b)),some (.d (dRr M N))] _
  o_law
  refine Y8 (f:=dS) (c:=sPl) (d:=sSg) Enc.str rfl rfl ?_
  refine⟨_,rfl,?_⟩
  refine Y2 (V5 (by decide +kernel)) ?_
  o_law
  refine Y8 (f:=dS) (c:=sPl) (d:=sLk) Enc.str rfl rfl ?_
  refine⟨_,rfl,?_⟩
  refine Y2 (V5 (by decide +kernel)) ?_
  o_law
  refine Y8 (f:=dS) (c:=sPl) (d:=sPl) Enc.str rfl rfl ?_
  refine⟨_,rfl,?_⟩
  refine SY rfl ?_
  o_law
  refine D4 hb R λL g=>?_
  have h:=DS (nm:=n) hb R g
  exact⟨_,Zt rfl,_,_,_,⟨h.1.mn,λc y=>by rw[mem_singleton.mp y];exact x,h.2⟩,rfl⟩
 | sum l m q =>
  obtain⟨S,I,F⟩:=g
  show Sv K _ _ _ [some (.d (.tuple [dS sSu,.list (l.map dS),.list ([m].map dS),.str (wdS q)])),some (.d (.int b)),some (.d (dRr M N))] _
  o_law
  refine Y8 (f:=dS) (c:=sSu) (d:=sSg) Enc.str rfl rfl ?_
  refine⟨_,rfl,?_⟩
  refine Y2 (V5 (by decide +kernel)) ?_
  o_law
  refine Y8 (f:=dS) (c:=sSu) (d:=sLk) Enc.str rfl rfl ?_
  refine⟨_,rfl,?_⟩
  refine Y2 (V5 (by decide +kernel)) ?_
  o_law
  refine Y8 (f:=dS) (c:=sSu) (d:=sPl) Enc.str rfl rfl ?_
  refine⟨_,rfl,?_⟩
  refine Y2 (V5 (by decide +kernel)) ?_
  o_law
  refine Oi (ds:=l.map dS) rfl (Kp.flat (X9 l)) ?_
  o_law
  refine Oi (ds:=[m].map dS) rfl (Kp.flat (X9 [m])) ?_
  o_law
  have U:∀ ns,OnceN (l++[m]) ns->Nrw b ns:=λns o=>Sm hb hu o λc y=>(mem_append.mp y).elim (S c) λe=>by rw[mem_singleton.mp e];exact F
  refine UH (l:=l) (r:=[m]) (q:=q) hb NR.av (by rw[TV.data,Wj];exact congrArg PyData.list (map_id _)) NR.av (by rw[TV.data,Wj];exact congrArg PyData.list (map_id _)) NR.av rfl (by omega) (by show 1<=3;decide) U λns L o g=>?_
  exact⟨_,Zt rfl,_,_,_,⟨M0 hb o (U ns o) g,λc y=>(mem_append.mp ((o.m c).mp y)).elim (S c) λe=>by rw[mem_singleton.mp e];exact F,M1 hb o I (by show 1<=1;decide) g⟩,rfl⟩
structure BsIx where
 b:Int
 us:List OkS
 M:Mach
 N:Mach
 a:OkS
 c:OkS
def Cf(i:BsIx)(cs:List AV):Prop:=cs=[.d (dRr i.M i.N),.d (dS i.a),.d (dS i.c)]/\(2<=i.b/\i.b<=5)/\Nrw i.b i.us/\i.a∈i.us/\i.c∈i.us/\Md i.b i.M/\Md i.b i.N
def Bsm(i:BsIx)(k:Nat)(cs:List (OkS->Int)):Prop:=∃ s:Nat,s<k/\sgw i.M (wC i.b [i.a] cs)=s/\sgw i.N (wC i.b [i.c] cs)=s
def Lk(i:BsIx)(_:List AV)(r:AV):Prop:=∃ ns L,Mn i.b ns L (Bsm i 3)/\(∀ x,x∈ns↔x=i.a\/x=i.c)/\r=.d (Zr i.b ns L)
theorem Cg(T:Txt K mg)(B:base.BuiltinsAt mg mainGlobals)(F:∀ p∈ts0,p∈Tabs.ts):Cal P w K mg base CX0 12 "_law_by_signs" ["_law_rows", "_law_name", "_law_second"] [] (spF K Cf Lk):=by
 have c_sign_is:Cal P w K mg base _ _ _ _ _ _:=MH T B F
 have c_both:Cal P w K mg base _ _ _ _ _ _:=M6 T B F
 have c_either:Cal P w K mg base _ _ _ _ _ _:=QY T B F
 refine Ws T.x_law_by_signs VS (λg cs ⟨e,_⟩=>by rw[e];rfl) (λg f cdv A S s H E I=>?_) [] (by simp)
 refine⟨_,(Ze (Zp (i:=3) VS.nd rfl (Or.inl rfl) Q8)
   (Ze (YY PassesOwn.never rfl (XM rfl T.n_range (Za Zc Zb)) (ZI (i:=4) VS.nd rfl (Or.inl rfl))
    (Ze (Zp (i:=5) VS.nd rfl (Or.inl rfl) (Zg (c_both.mono (by decide)) I rfl pass0 (Za (Zg (c_sign_is.mono (by decide)) I rfl pass0 (Za (Zj (Zk (K:=K) rfl I.units) (pv 0) Zc (λ_ _=>rfl)) (Za (pv 1) (Za (pv 4) Zb)))) (Za (Zg (c_sign_is.mono (by decide)) I rfl pass0 (Za (Zj (Zk (K:=K) rfl I.units) (pv 0) Zc (λ_ _=>rfl)) (Za (pv 2) (Za (pv 4) Zb)))) Zb))))
    (Zh (W4 (Zw LS (pv 3) Q8 (nomark _))
     (Zh (Zp (i:=3) VS.nd rfl (Or.inl rfl) (pv 5)))
     (Zh (Zp (i:=3) VS.nd rfl (Or.inl rfl) (Zg (c_either.mono (by decide)) I rfl pass0 (Za (pv 3) (Za (pv 5) Zb)))))))))
   (Zh (Zq (pv 3))))),?_⟩
 rintro cs ⟨rfl,hb,hu,ha,hc,hM,hN⟩
 have v:∀ {ns L},Ro g.b g.us ns L 64 (Bsm g 3)->(∀ x,x∈ns↔x=g.a\/x=g.c)->Lk g [.d (dRr g.M g.N),.d (dS g.a),.d (dS g.c)] (.d (Zr g.b ns L)):=λh m=>⟨_,_,h.mn,m,rfl⟩
 obtain⟨b,us,M,N,a,c⟩:=g
 replace hb:2<=b/\b<=5:=hb
 replace hu:Nrw b us:=hu
 replace hM:Md b M:=hM
 replace hN:Md b N:=hN
 show Sv K _ _ _ [some (.d (dRr M N)),some (.d (dS a)),some (.d (dS c)),none,none,none] _
 w_on
 refine Wh ?_
 w_on
 refine⟨3,rfl,⟨by decide,by decide⟩,λi n=>∃ (r q:Option AV),(i=0/\n=[some (.d (dRr M N)),some (.d (dS a)),some (.d (dS c)),some (.d .none),r,q])\/(0<i/\∃ ns L,Ro b us ns L (4 ^ i) (Bsm ⟨b,us,M,N,a,c⟩ i)/\(∀ x,x∈ns↔x=a\/x=c)/\n=[some (.d (dRr M N)),some (.d (dS a)),some (.d (dS c)),some (.d (Zr b ns L)),r,q]),⟨none,none,.inl ⟨rfl,rfl⟩⟩,?_,?_⟩
 ·rintro i n hi ⟨r,q,hρ⟩
  obtain⟨x,rfl,hx⟩:∃ x,n=[some (.d (dRr M N)),some (.d (dS a)),some (.d (dS c)),some (.d x),r,q]/\((i=0/\x=.none)\/(0<i/\∃ ns L,Ro b us ns L (4 ^ i) (Bsm ⟨b,us,M,N,a,c⟩ i)/\(∀ x,x∈ns↔x=a\/x=c)/\x=Zr b ns L)):=by
   rcases hρ with⟨j,G⟩|⟨j,ns,L,G,u,h4⟩
   ·exact⟨_,G,.inl ⟨j,rfl⟩⟩
   ·exact⟨_,h4,.inr ⟨j,ns,L,G,u,rfl⟩⟩
  w_on
  refine ZH ?_
  w_on
  refine ZL rfl (show atI [dM M,dM N] 0=some (dM M) from rfl) Zs.d ?_
  w_on
  refine Q0 hM.p (by rw[hM.b];exact hb) λA X=>?_
  have X:=Q1 hb hM ha X
  rw[hM.b]
  w_on
  refine ZL rfl (show atI [dM M,dM N] 1=some (dM N) from rfl) Zs.d ?_
  w_on
  refine Q0 hN.p (by rw[hN.b];exact hb) λC W=>?_
  have W:=Q1 hb hN hc W
  rw[hN.b]
  w_on
  refine Z2 hu YU (op:=And) YV X W (by decide) λJ L1 j O _=>?_
  have O:∀ x,x∈J↔x=a\/x=c:=λx=>(O x).trans (by simp)
  w_on
  refine W5 (λn=>∃ (r q:Option AV),(i+1=0/\n=[some (.d (dRr M N)),some (.d (dS a)),some (.d (dS c)),some (.d .none),r,q])\/(0<i+1/\∃ ns L,Ro b us ns L (4 ^ (i+1)) (Bsm ⟨b,us,M,N,a,c⟩ (i+1))/\(∀ x,x∈ns↔x=a\/x=c)/\n=[some (.d (dRr M N)),some (.d (dS a)),some (.d (dS c)),some (.d (Zr b ns L)),r,q])) (λn h=>h) ?_
  w_on
  rcases hx with⟨rfl,rfl⟩|⟨h0,ns,L,G,Y,rfl⟩
  ·refine is_N rfl ?_
   w_on
   refine⟨_,_,.inr ⟨by decide,J,L1,⟨⟨j.mn.1,λcs y=>(j.mn.2 cs y).trans ⟨λh=>⟨0,by decide,h.1,h.2⟩,λ⟨s,Z,R,Q⟩=>?_⟩⟩,j.u,j.k⟩,O,rfl⟩⟩
   obtain rfl:s=0:=by omega
   exact⟨R,Q⟩
  ·refine is_S rfl ?_
   w_on
   refine ZH ?_
   w_on
   have e4:4 ^ i*(2*2)<=100:=by
    have:i=1\/i=2:=by omega
    rcases this with e|e<;>subst e<;>decide
   refine Z2 hu YI (op:=Or) YW G j e4 λU L3 u m3 _=>?_
   w_on
   refine⟨_,_,.inr ⟨by omega,U,L3,⟨⟨u.mn.1,λcs y=>(u.mn.2 cs y).trans ⟨λh=>?_,λ⟨s,Z,R,Q⟩=>?_⟩⟩,u.u,Nat.le_trans u.k (by rw[Nat.pow_succ];exact Nat.le_refl _)⟩,λx=>(m3 x).trans ⟨λh=>h.elim (Y x).mp (O x).mp,λh=>.inl ((Y x).mpr h)⟩,rfl⟩⟩
   ·rcases h with⟨s,Z,e⟩|h
    ·exact⟨s,by omega,e⟩
    ·exact⟨i,by omega,h.1,h.2⟩
   ·by_cases e:s=i
    ·subst e;exact .inr ⟨R,Q⟩
    ·exact .inl ⟨s,by omega,R,Q⟩
 ·rintro n ⟨r,q,hρ⟩
  rcases hρ with⟨j,_⟩|⟨j,ns,L,G,u,rfl⟩
  ·exact absurd j (by decide)
  ·w_on
   exact⟨_,Zt rfl,v G u⟩
theorem Enc.tri{c:Type}{f:α->PyData}{g:β->PyData}{k:c->PyData}(E:Enc f n)(G:Enc g n)(H:Enc k n):Enc (λp:α×β×c=>PyData.tuple [f p.1,g p.2.1,k p.2.2]) (n+1) :=
 ⟨λa b=>by
  obtain⟨u,s,r⟩:=a
  obtain⟨q,m,j⟩:=b
  simp[PyData.eqv,PyData.eqvAll,E.eqv,G.eqv,H.eqv],λa=>by simp[PyData.canLay0,PyData.canLayAll0,E.lay,G.lay,H.lay],λa=>by
  have i:=E.dep a.1
  have h:=G.dep a.2.1
  have e:=H.dep a.2.2
  simp only[PyData.depth,PyData.depthAll]
  omega⟩
theorem Q2:Enc (λp:Int×List OkS×Mach=>Zr p.1 p.2.1 p.2.2) 4:=Enc.tri (Enc.int.mono (show 0<=3 by decide)) (Enc.str.tuple.mono (show 1<=3 by decide)) Mach.enc
def Ch(i:Int×List OkS×OkS×OkS)(cs:List AV):Prop:=cs=[.d (.int i.1),.d (dS i.2.2.1),.d (dS i.2.2.2)]/\(2<=i.1/\i.1<=5)/\Nrw i.1 i.2.1/\i.2.2.1∈i.2.1/\i.2.2.2∈i.2.1
def Ci(_:Int×List OkS×OkS×OkS)(_:List AV)(r:AV):Prop:=r=.d (.bool true)
theorem Q3(x:Int):sgS true x=1↔x=0:=by
 unfold sgS
 rw[if_pos rfl]
 by_cases h:x=0<;>simp[h]
theorem Ll(x:Int):sgS false x=1↔0<x:=by
 unfold sgS
 rw[if_neg Bool.false_ne_true]
 by_cases h:0<x<;>simp[h]
theorem su1{x y:OkS}(hb:2<=b/\b<=5)(n:Nrw b us)(m:x∈us)(j:y∈us)(o:OnceN ([x]++[y]) ns)(i:Ys (thS b ns [x] [y]) (sgS q) N):Ro b us ns N 4 (λcs=>sgS q (plC b cs y-plC b cs x)=1)/\∀ c,c∈ns↔c=x\/c=y:=by
 have f:∀ c,c∈ns↔c=x\/c=y:=λc=>(o.m c).trans (by simp)
 have g:∀ c∈ns,c∈us:=λc a=>((f c).mp a).elim (λe=>e▸m) λe=>e▸j
 have h:=M0 hb o (Sm hb n o λc a=>g c ((o.m c).mpr a)) i
 refine⟨⟨⟨h.1,λcs a=>(h.2 cs a).trans ?_⟩,g,M1 hb o (by show 1<=2;decide) (by show 1<=1;decide) i⟩,f⟩
 simp only[map_cons,map_nil,sum_cons,List.sum_nil,Int.add_zero]
theorem Cj(T:Txt K mg)(B:base.BuiltinsAt mg mainGlobals)(j:∀ p∈ts0,p∈Tabs.ts):Cal P w K mg base CX0 12 "_law_orders" ["_law_base", "_law_name", "_law_second"] [] (spF K Ch Ci):=by
 have c_sums:Cal P w K mg base _ _ _ _ _ _:=MV T B j
 have c_either:Cal P w K mg base _ _ _ _ _ _:=QY T B j
 have c_no:Cal P w K mg base _ _ _ _ _ _:=M7 T
 refine Ws T.x_law_orders Qu (λI cs ⟨e,_⟩=>by rw[e];rfl) (λI f cdv A u s H E g=>?_) [] (by simp)
 refine⟨_,(Ze (Zp (i:=3) Qu.nd rfl (Or.inl rfl) (Zg (c_sums.mono (by decide)) g rfl pass0 (Za (pv 0) (Za (ZZ (Za (pv 1) Zb)) (Za (ZZ (Za (pv 2) Zb)) (Za Z6 Zb))))))
   (Ze (Zp (i:=4) Qu.nd rfl (Or.inl rfl) (Zg (c_sums.mono (by decide)) g rfl pass0 (Za (pv 0) (Za (ZZ (Za (pv 1) Zb)) (Za (ZZ (Za (pv 2) Zb)) (Za Z6 Zb))))))
   (Ze (Z3 (Zw (Yz (K:=K) rfl g.units) (pv 4) (Zg (c_sums.mono (by decide)) g rfl pass0 (Za (pv 0) (Za (ZZ (Za (pv 2) Zb)) (Za (ZZ (Za (pv 1) Zb)) (Za Z6 Zb))))) (nomark _))
    (Zh (Zq Wc))
    ZO)
   (Zh (Zq (Vu (Yu (K:=K) rfl g.units) (pv 3) (Zg (c_no.mono (by decide)) g rfl pass0 (Za (Zg (c_either.mono (by decide)) g rfl pass0 (Za (Zg (c_sums.mono (by decide)) g rfl pass0 (Za (pv 0) (Za (ZZ (Za (pv 2) Zb)) (Za (ZZ (Za (pv 1) Zb)) (Za Z6 Zb))))) (Za (pv 4) Zb))) Zb)) (nomark _))))))),?_⟩
 rintro cs ⟨rfl,hb,hu,hx,hy⟩
 obtain⟨b,us,x,y⟩:=I
 replace hb:2<=b/\b<=5:=hb
 replace hu:Nrw b us:=hu
 replace hx:x∈us:=hx
 replace hy:y∈us:=hy
 show Sv K _ _ _ [some (.d (.int b)),some (.d (dS x)),some (.d (dS y)),none,none] _
 have m:∀ {x y:OkS},x∈us->y∈us->∀ ns,OnceN ([x]++[y]) ns->Nrw b ns:=λ{x y} hx hy ns o=>Sm hb hu o λc hc=>by
  rcases mem_cons.mp hc with e|e
  ·rw[e];exact hx
  ·rw[mem_singleton.mp e];exact hy
 have a:∀ z:OkS,Stos [.av (.d (dS z))] [.d (dS z)]:=λz=>.cons rfl .nil
 w_on
 refine Yj ?_
 w_on
 refine⟨_,a x,by show 1<=1000;decide,?_⟩
 w_on
 refine Yj ?_
 w_on
 refine⟨_,a y,by show 1<=1000;decide,?_⟩
 w_on
 refine UH (l:=[x]) (r:=[y]) (q:=false) hb NR.av rfl NR.av rfl NR.av rfl (by show 1<=3;decide) (by show 1<=3;decide) (m hx hy) λL N1 W G=>?_
 obtain⟨G,Z⟩:=su1 hb hu hx hy W G
 w_on
 refine Yj ?_
 w_on
 refine⟨_,a x,by show 1<=1000;decide,?_⟩
 w_on
 refine Yj ?_
 w_on
 refine⟨_,a y,by show 1<=1000;decide,?_⟩
 w_on
 refine UH (l:=[x]) (r:=[y]) (q:=true) hb NR.av rfl NR.av rfl NR.av rfl (by show 1<=3;decide) (by show 1<=3;decide) (m hx hy) λJ Q U n=>?_
 obtain⟨n,v⟩:=su1 hb hu hx hy U n
 w_on
 refine Yj ?_
 w_on
 refine⟨_,a y,by show 1<=1000;decide,?_⟩
 w_on
 refine Yj ?_
 w_on
 refine⟨_,a x,by show 1<=1000;decide,?_⟩
 w_on
 refine UH (l:=[y]) (r:=[x]) (q:=true) hb NR.av rfl NR.av rfl NR.av rfl (by show 1<=3;decide) (by show 1<=3;decide) (m hy hx) λn3 N3 S F=>?_
 obtain⟨F,Y⟩:=su1 hb hu hy hx S F
 obtain⟨rfl,rfl⟩:=n.mn.eq F.mn (λc=>(v c).trans (Or.comm.trans (Y c).symm)) λcs _=>by rw[Q3,Q3];omega
 refine ne_d (f:=λp:Int×List OkS×Mach=>Zr p.1 p.2.1 p.2.2) (c:=(b,J,Q)) (d:=(b,J,Q)) Q2 rfl rfl ?_
 refine⟨_,rfl,?_⟩
 refine SO rfl ?_
 w_on
 refine ZH ?_
 w_on
 refine Yj ?_
 w_on
 refine⟨_,a y,by show 1<=1000;decide,?_⟩
 w_on
 refine Yj ?_
 w_on
 refine⟨_,a x,by show 1<=1000;decide,?_⟩
 w_on
 refine UH (l:=[y]) (r:=[x]) (q:=false) hb NR.av rfl NR.av rfl NR.av rfl (by show 1<=3;decide) (by show 1<=3;decide) (m hy hx) λn4 N4 R C=>?_
 obtain⟨C,X⟩:=su1 hb hu hy hx R C
 w_on
 refine Z2 hu YI (op:=Or) YW C n (by decide) λn5 O N M _=>?_
 w_on
 refine Xv N.mn.1 ?_
 obtain⟨rfl,e⟩:=G.mn.eq (T8 N.mn) (λc=>(Z c).trans ⟨λh=>(M c).mpr (.inr ((v c).mpr h)),λh=>((M c).mp h).elim (λz=>Or.comm.mp ((X c).mp z)) (v c).mp⟩) λcs _=>by rw[Ll,Q3,Ll];omega
 subst e
 refine Y8 (f:=λp:Int×List OkS×Mach=>Zr p.1 p.2.1 p.2.2) (c:=(b,L,noM O)) (d:=(b,L,noM O)) Q2 rfl rfl ?_
 rw[decide_eq_true rfl]
 exact⟨_,Zt rfl,rfl⟩
abbrev fRel(p:Int×List OkS×Mach):PyData:=Zr p.1 p.2.1 p.2.2
theorem Good.md{r wd:Int}(hb:2<=b/\b<=5)(h:r<=2)(hw:wd<=3)(g:Good r b wd M):Md b M:=by
 have j:=g.r0
 have i:=g.n
 have f:=g.s
 have e:(((M.rows.getD 0 []).length:Nat):Int)=b:=(g.row _ (YD (d:=[]) (show 0<M.rows.length by omega))).1
 refine⟨⟨by omega,by omega,by omega,λx a=>⟨by have:=(g.row x a).1;omega,λy c=>by have:=(g.row x a).2 y c;omega⟩,by omega,by omega,λx a=>by have:=g.sg x a;omega⟩,e,by omega,λx a=>by have:=g.sg x a;omega⟩
theorem Lm(b:0<=k)(a:us.length=4):VI (us.map dS) none (some k)=(us.take k.toNat).map dS:=by
 unfold VI
 have e:HT.sIx (us.map dS).length (us.map dS).length (some k)=min k.toNat (us.map dS).length:=by
  show (if k<0 then (k+((us.map dS).length:Int)).toNat else min k.toNat (us.map dS).length)=_
  rw[if_neg (by omega)]
 rw[e,HT.LY,List.drop_zero,Nat.sub_zero,List.map_take,length_map,a]
 rcases Nat.le_total k.toNat 4 with h|h
 ·rw[Nat.min_eq_left h]
 ·rw[Nat.min_eq_right h,List.take_of_length_le (by rw[length_map];omega),List.take_of_length_le (by rw[length_map];omega)]
theorem Xi{E:FK}{X:Exc->Sl->Prop}(e:ns=ms/\N=M)(q:Q (.av (.d (.bool false)))):Op K E X (rOr rNe (WZ K)) (.av (.d (Zr b ns N))) (.av (.d (Zr b ms M))) Q:=by
 obtain⟨rfl,rfl⟩:=e
 exact ne_d (f:=fRel) (c:=(b,ns,N)) (d:=(b,ns,N)) Q2 rfl rfl (by rw[decide_eq_true rfl];exact q)
theorem Ck(hb:2<=b/\b<=5)(hn:ns.length=4):∃ (k:Int) (us:List OkS),atI [PyData.int 4,.int 3,.int 3,.int 2] (b-2)=some (.int k)/\0<=k/\us=ns.take k.toNat/\Nrw b us/\2<=us.length/\us.length<=4:=by
 rcases (by omega:b=2\/b=3\/b=4\/b=5) with rfl|rfl|rfl|rfl
 ·exact⟨4,_,rfl,by decide,rfl,⟨by rw[length_take];omega,by rw[length_take,hn];decide⟩,by rw[length_take,hn];decide,by rw[length_take];omega⟩
 ·exact⟨3,_,rfl,by decide,rfl,⟨by rw[length_take];omega,by rw[length_take,hn];decide⟩,by rw[length_take,hn];decide,by rw[length_take];omega⟩
 ·exact⟨3,_,rfl,by decide,rfl,⟨by rw[length_take];omega,by rw[length_take,hn];decide⟩,by rw[length_take,hn];decide,by rw[length_take];omega⟩
 ·exact⟨2,_,rfl,by decide,rfl,⟨by rw[length_take];omega,by rw[length_take,hn];decide⟩,by rw[length_take,hn];decide,by rw[length_take];omega⟩
theorem Cm(T:Txt K mg)(B:base.BuiltinsAt mg mainGlobals)(O:∀ p∈ts0,p∈Tabs.ts){f:Addr}{fd:FuncData}(F:FunD K "law" "law" TJ .none f fd):FnOk P w K mg base CX0 13 f fd ["_law_script"] (Us K):=by
 have c_law_cell:Cal P w K mg base _ _ _ _ _ _:=QZ T
 have c_law_machine:Cal P w K mg base _ _ _ _ _ _:=DU T
 have c_law_names:Cal P w K mg base _ _ _ _ _ _:=D1 T
 have c_law_leaf:Cal P w K mg base _ _ _ _ _ _:=Cb T
 have c_law_leaf_made:Cal P w K mg base _ _ _ _ _ _:=Ce T B O
 have c_law_by_signs:Cal P w K mg base _ _ _ _ _ _:=Cg T B O
 have c_law_orders:Cal P w K mg base _ _ _ _ _ _:=Cj T B O
 have c_signs_like:Cal P w K mg base _ _ _ _ _ _:=MO T B O
 have c_both:Cal P w K mg base _ _ _ _ _ _:=M6 T B O
 have c_either:Cal P w K mg base _ _ _ _ _ _:=QY T B O
 have c_no:Cal P w K mg base _ _ _ _ _ _:=M7 T
 refine HN (k:=12) F XD rfl λcdv A outer s H E h=>?_
 refine⟨_,(Ze (Zp (i:=1) XD.nd rfl (Or.inl rfl) (Zg (c_law_cell.mono (by decide)) h rfl pass0 (Za (pv 0) (Za Zc Zb))))
   (Ze (Zp (i:=2) XD.nd rfl (Or.inr rfl) (Zl (Z8 (K:=K) rfl) Zc (Zl ZM (pv 1) Zc)))
   (Ze (Zp (i:=3) XD.nd rfl (Or.inr rfl) (Kc (IB (K:=K) rfl) (Zg (c_law_names.mono (by decide)) h rfl pass0 (Za (Zg (c_law_cell.mono (by decide)) h rfl pass0 (Za (pv 0) (Za Zc Zb))) Zb)) Ka (Kb (Zj (Zk (K:=K) rfl h.units) (ZZ (Za Zc (Za Zc (Za Zc (Za Zc Zb))))) (Zl Ue (pv 2) Zc) (λ_ _=>rfl)))))
   (Ze (Zp (i:=4) XD.nd rfl (Or.inr rfl) (ZZ (Za (Zg (c_law_machine.mono (by decide)) h rfl pass0 (Za (pv 0) (Za Zc (Za (pv 2) (Za (Zl (Z8 (K:=K) rfl) Zc (Zl ZM (Zl Z7 (pv 1) Zc) Zc)) (Za (Zl (Z8 (K:=K) rfl) Zc (Zl ZM (Zl Z7 (pv 1) Zc) Zc)) Zb)))))) Zb)))
   (Ze (Yh (Y4 (K:=K) rfl PySem.F.plainAttrs_list PySem.F.slot_list_append PySem.F.type_list_append Xl (pv 4) (Za (Zg (c_law_machine.mono (by decide)) h rfl pass0 (Za (pv 0) (Za Zc (Za (pv 2) (Za (Zl (Z8 (K:=K) rfl) Zc (Zl ZM (Zl Z7 (pv 1) Zc) Zc)) (Za (Zl (Z8 (K:=K) rfl) Zc (Zl ZM (Zl Z7 (pv 1) Zc) Zc)) Zb)))))) Zb)))
   (Ze (Ub (Y1 (N:=["_law_k", "_law_script", "_law_base", "_law_names_here", "_law_rows"]) (cap:=[none,some 0,some 2,some 3,some 4]) rfl rfl rfl (by kernel_rfl) (LK rfl T.n_range (Za Zc (Za Zc Zb))) (λ_ _ _ _=>(ZI (i:=0) (show (["_law_k", "_law_script", "_law_base", "_law_names_here", "_law_rows"]:List Str).Nodup from by decide +kernel) rfl (Or.inl rfl))) (λ_ _ _ _=>YO) (λ_ _ _ _=>(Zg (c_law_leaf_made.mono (by decide)) h rfl pass0 (Za (Zg (c_law_leaf.mono (by decide)) h rfl pass0 (Za (pv 1) (Za (pv 0) (Za (pv 2) (Za (pv 3) (Za (pv 4) Zb)))))) (Za (pv 2) (Za (pv 4) Zb)))))) (GW (K:=K) (n:=3) rfl rfl (Xk (ZI (i:=5) XD.nd rfl (Or.inl rfl)) (Xk (ZI (i:=6) XD.nd rfl (Or.inl rfl)) (Xk (ZI (i:=7) XD.nd rfl (Or.inl rfl)) Ua)))))
   (Ze (Z3 (PW.pt (WR (Zw (Yz (K:=K) rfl h.units) (Zg (c_both.mono (by decide)) h rfl pass0 (Za (pv 5) (Za (pv 6) Zb))) (Zg (c_both.mono (by decide)) h rfl pass0 (Za (pv 6) (Za (pv 5) Zb))) (nomark _)) (Vo (Zw (Yz (K:=K) rfl h.units) (Zg (c_either.mono (by decide)) h rfl pass0 (Za (pv 5) (Za (pv 6) Zb))) (Zg (c_either.mono (by decide)) h rfl pass0 (Za (pv 6) (Za (pv 5) Zb))) (nomark _)))))
    (Zh (Zq Wc))
    ZO)
   (Ze (Z3 (PW.pt (WR (Zw (Yz (K:=K) rfl h.units) (Zg (c_both.mono (by decide)) h rfl pass0 (Za (pv 5) (Za (Zg (c_both.mono (by decide)) h rfl pass0 (Za (pv 6) (Za (pv 7) Zb))) Zb))) (Zg (c_both.mono (by decide)) h rfl pass0 (Za (Zg (c_both.mono (by decide)) h rfl pass0 (Za (pv 5) (Za (pv 6) Zb))) (Za (pv 7) Zb))) (nomark _)) (Vo (Zw (Yz (K:=K) rfl h.units) (Zg (c_either.mono (by decide)) h rfl pass0 (Za (pv 5) (Za (Zg (c_either.mono (by decide)) h rfl pass0 (Za (pv 6) (Za (pv 7) Zb))) Zb))) (Zg (c_either.mono (by decide)) h rfl pass0 (Za (Zg (c_either.mono (by decide)) h rfl pass0 (Za (pv 5) (Za (pv 6) Zb))) (Za (pv 7) Zb))) (nomark _)))))
    (Zh (Zq Wc))
    ZO)
   (Ze (Z3 (PW.pt (WR (Zw (Yz (K:=K) rfl h.units) (Zg (c_no.mono (by decide)) h rfl pass0 (Za (Zg (c_both.mono (by decide)) h rfl pass0 (Za (pv 5) (Za (pv 6) Zb))) Zb)) (Zg (c_either.mono (by decide)) h rfl pass0 (Za (Zg (c_no.mono (by decide)) h rfl pass0 (Za (pv 5) Zb)) (Za (Zg (c_no.mono (by decide)) h rfl pass0 (Za (pv 6) Zb)) Zb))) (nomark _)) (Vo (Zw (Yz (K:=K) rfl h.units) (Zg (c_no.mono (by decide)) h rfl pass0 (Za (Zg (c_either.mono (by decide)) h rfl pass0 (Za (pv 5) (Za (pv 6) Zb))) Zb)) (Zg (c_both.mono (by decide)) h rfl pass0 (Za (Zg (c_no.mono (by decide)) h rfl pass0 (Za (pv 5) Zb)) (Za (Zg (c_no.mono (by decide)) h rfl pass0 (Za (pv 6) Zb)) Zb))) (nomark _)))))
    (Zh (Zq Wc))
    ZO)
   (Ze (Z3 (PW.pt (WR (Zw (Yz (K:=K) rfl h.units) (Zg (c_no.mono (by decide)) h rfl pass0 (Za (Zg (c_no.mono (by decide)) h rfl pass0 (Za (pv 5) Zb)) Zb)) (pv 5) (nomark _)) (WR (Zw (Yz (K:=K) rfl h.units) (Zg (c_both.mono (by decide)) h rfl pass0 (Za (pv 5) (Za (pv 5) Zb))) (pv 5) (nomark _)) (Vo (Zw (Yz (K:=K) rfl h.units) (Zg (c_either.mono (by decide)) h rfl pass0 (Za (pv 5) (Za (pv 5) Zb))) (pv 5) (nomark _))))))
    (Zh (Zq Wc))
    ZO)
   (Ze (Z3 (Zw (Yz (K:=K) rfl h.units) (Zg (c_both.mono (by decide)) h rfl pass0 (Za (pv 5) (Za (Zg (c_either.mono (by decide)) h rfl pass0 (Za (pv 6) (Za (Zg (c_no.mono (by decide)) h rfl pass0 (Za (pv 6) Zb)) Zb))) Zb))) (Zg (c_either.mono (by decide)) h rfl pass0 (Za (Zg (c_both.mono (by decide)) h rfl pass0 (Za (pv 5) (Za (pv 6) Zb))) (Za (Zg (c_both.mono (by decide)) h rfl pass0 (Za (pv 5) (Za (Zg (c_no.mono (by decide)) h rfl pass0 (Za (pv 6) Zb)) Zb))) Zb))) (nomark _))
    (Zh (Zq Wc))
    ZO)
   (Ze (Zp (i:=8) XD.nd rfl (Or.inl rfl) (Zj (Zk (K:=K) rfl h.units) (pv 3) (Zl ZM (Zl Z7 (pv 1) Zc) (ZA (ZS (K:=K) rfl) rfl T.n_len PySem.boot_len (Za (pv 3) Zb))) (λ_ _=>rfl)))
   (Ze (Zp (i:=9) XD.nd rfl (Or.inl rfl) (Zj (Zk (K:=K) rfl h.units) (pv 3) (Zl ZM (Zl Z7 (pv 1) Zc) (ZA (ZS (K:=K) rfl) rfl T.n_len PySem.boot_len (Za (pv 3) Zb))) (λ_ _=>rfl)))
   (Ze (Z3 (Zw (Yz (K:=K) rfl h.units) (Zg (c_signs_like.mono (by decide)) h rfl pass0 (Za (Zj (Zk (K:=K) rfl h.units) (pv 4) Zc (λ_ _=>rfl)) (Za (pv 8) (Za (Zj (Zk (K:=K) rfl h.units) (pv 4) Zc (λ_ _=>rfl)) (Za (pv 9) Zb))))) (Zg (c_signs_like.mono (by decide)) h rfl pass0 (Za (Zj (Zk (K:=K) rfl h.units) (pv 4) Zc (λ_ _=>rfl)) (Za (pv 9) (Za (Zj (Zk (K:=K) rfl h.units) (pv 4) Zc (λ_ _=>rfl)) (Za (pv 8) Zb))))) (nomark _))
    (Zh (Zq Wc))
    ZO)
   (Ze (Z3 (Zw (Yz (K:=K) rfl h.units) (Zg (c_signs_like.mono (by decide)) h rfl pass0 (Za (Zj (Zk (K:=K) rfl h.units) (pv 4) Zc (λ_ _=>rfl)) (Za (pv 8) (Za (Zj (Zk (K:=K) rfl h.units) (pv 4) Zc (λ_ _=>rfl)) (Za (pv 9) Zb))))) (Zg (c_law_by_signs.mono (by decide)) h rfl pass0 (Za (pv 4) (Za (pv 8) (Za (pv 9) Zb)))) (nomark _))
    (Zh (Zq Wc))
    ZO)
   (Zh (Zq (Zg (c_law_orders.mono (by decide)) h rfl pass0 (Za (pv 2) (Za (Zj (Zk (K:=K) rfl h.units) (pv 3) Zc (λ_ _=>rfl)) (Za (Zj (Zk (K:=K) rfl h.units) (pv 3) Zc (λ_ _=>rfl)) Zb))))))))))))))))))))),?_⟩
 intro ns hn hbits
 show Sv K _ _ _ [some (.d (dI ns)),none,none,none,none,none,none,none,none,none] _
 o_law
 refine Si (by decide) λh0=>?_
 o_law
 have u:2<=2+h0%4/\2+h0%4<=5:=by omega
 generalize 2+h0%4=b at u
 refine sl_L ?_
 o_law
 refine Si (by decide) λh1=>?_
 o_law
 refine⟨[.d (.int h1)],.cons (.d NR.av rfl) .nil,⟨h1,rfl⟩,λc ⟨nm,nm4,nmd,S⟩=>?_,λ_ z=>z.elim⟩
 subst S
 refine⟨_,Got.own (YR λ_=>rfl),?_⟩
 o_law
 refine Yj ?_
 o_law
 refine⟨[.d (.int 4),.d (.int 3),.d (.int 3),.d (.int 2)],.cons rfl (.cons rfl (.cons rfl (.cons rfl .nil))),by show 4<=1000;decide,?_⟩
 o_law
 obtain⟨k,us,ek,hk0,eu,m,hu2,hu4⟩:=Ck u nm4
 refine ZL rfl ek (Zs.flat rfl) ?_
 o_law
 refine⟨nm.map dS,Sk nm,NR.av,?_,?_⟩
 ·rw[Lm hk0 nm4,<- eu];exact Kp.flat (X9 us)
 rw[Lm hk0 nm4,<- eu]
 refine VN (x:=.list (us.map dS)) (by rw[Wj];exact congrArg PyData.list (map_id _)) ?_
 clear eu nmd nm4 ek hk0
 have hl0:0<us.length:=by omega
 o_law
 refine Yj ?_
 o_law
 refine Lc (by decide) (by omega) u (by omega) λM C=>?_
 have C:=C.md u (by omega) (by omega)
 o_law
 refine⟨[.d (dM M)],.cons rfl .nil,by show 1<=1000;decide,?_⟩
 o_law
 refine Lc (by decide) (by omega) u (by omega) λN Q=>?_
 have Q:=Q.md u (by omega) (by omega)
 refine XV (by show 1<=1000000;decide) ?_
 show Sv K _ _ _ [some (.d (dI ns)),some (.d (.int h0)),some (.d (.int b)),some (.d (.list (us.map dS))),some (.own [.d (dM M),.d (dM N)]),none,none,none,none,none] _
 walk_at "v"
 refine GX ?_
 refine GY ?_
 o_law
 refine⟨8,11,λi ys=>ys.length=i/\∀ y∈ys,∃ ms L G,Ro b us ms L 4 G/\y=.d (Zr b ms L),rfl,⟨by decide,by decide,by decide,by decide,by decide⟩,⟨rfl,by simp⟩,λi ys hi ⟨y1,y2⟩=>?_,λys ⟨y1,y2⟩=>?_⟩
 ·show Gv K _ _ [none,some (.d (dI ns)),some (.d (.int b)),some (.d (.list (us.map dS))),some (.d (dRr M N))] _
  o_law
  refine⟨Y7,?_⟩
  o_law
  refine ZH ?_
  o_law
  refine ZH ?_
  o_law
  refine⟨(b,us),[.d (dI ns),.d (.int (8+i)),.d (.int b),.d (.list (us.map dS)),.d (dRr M N)],.cons (.d NR.av rfl) (.cons (.d NR.av rfl) (.cons (.d NR.av rfl) (.cons (.d NR.av rfl) (.cons (.d NR.av rfl) .nil)))),⟨ns,8+i,M,N,rfl,by omega,u,hl0,hu4⟩,λc ⟨L,hL,S⟩=>?_,λ_ z=>z.elim⟩
  subst S
  refine⟨_,Got.br,?_⟩
  o_law
  refine⟨⟨b,us,M,N,L⟩,[.d L.D,.d (.int b),.d (dRr M N)],.cons (.d NR.bor rfl) (.cons (.d NR.av rfl) (.cons (.d NR.av rfl) .nil)),⟨rfl,u,m,hL,C,Q⟩,λc ⟨ms,L,G,hR,S⟩=>?_,λ_ z=>z.elim⟩
  subst S
  refine⟨_,Got.own (YT _ _ _),_,rfl,by rw[List.length_append,y1];rfl,λy Z=>?_⟩
  rcases mem_append.mp Z with Z|Z
  ·exact y2 y Z
  ·rw[mem_singleton.mp Z]
   exact⟨ms,L,G,hR,rfl⟩
 have y1:ys.length=3:=y1
 obtain⟨ya,yb,yc,rfl⟩:∃ a b c,ys=[a,b,c]:=by
  match ys,y1 with
  | [a,b,c],_=>exact⟨a,b,c,rfl⟩
 obtain⟨na,RA,FA,j,rfl⟩:=y2 ya (.head _)
 obtain⟨nb,RB,FB,r,rfl⟩:=y2 yb (.tail _ (.head _))
 obtain⟨nc,RC,FC,hC,rfl⟩:=y2 yc (.tail _ (.tail _ (.head _)))
 clear y1 y2
 refine⟨_,Got.own (by show AV.cleans [_,_,_]=true;simp only[AV.cleans,AV.clean,YT,Bool.and_true]),Zr b na RA,Zr b nb RB,Zr b nc RC,rfl,?_⟩
 show Sv K _ _ _ [some (.d (dI ns)),some (.d (.int h0)),some (.d (.int b)),some (.d (.list (us.map dS))),some (.own [.d (dM M),.d (dM N)]),some (.d (Zr b na RA)),some (.d (Zr b nb RB)),some (.d (Zr b nc RC)),none,none] _
 o_law
 refine ZH ?_
 o_law
 refine Z2 m YU (op:=And) YV j r (by decide) λn1 N1 h1 m1 d1=>?_
 o_law
 refine ZH ?_
 o_law
 refine Z2 m YU (op:=And) YV r j (by decide) λn2 N2 h2 m2 d2=>?_
 refine Xi (h1.mn.eq h2.mn (λc=>(m1 c).trans (Or.comm.trans (m2 c).symm)) λcs _=>And.comm) ?_
 o_law
 refine ZH ?_
 o_law
 refine Z2 m YI (op:=Or) YW j r (by decide) λn3 N3 h3 m3 d3=>?_
 o_law
 refine ZH ?_
 o_law
 refine Z2 m YI (op:=Or) YW r j (by decide) λn4 N4 h4 m4 d4=>?_
 refine Xi (h3.mn.eq h4.mn (λc=>(m3 c).trans (Or.comm.trans (m4 c).symm)) λcs _=>Or.comm) ?_
 o_law
 refine ZH ?_
 o_law
 refine ZH ?_
 o_law
 refine Z2 m YU (op:=And) YV r hC (by decide) λn5 N5 I J d5=>?_
 o_law
 refine Z2 m YU (op:=And) YV j I (by decide) λn6 N6 h6 Y d6=>?_
 o_law
 refine ZH ?_
 o_law
 refine ZH ?_
 o_law
 refine Z2 m YU (op:=And) YV j r (by decide) λX N7 R m7 d7=>?_
 o_law
 refine Z2 m YU (op:=And) YV R hC (by decide) λn8 N8 h8 m8 d8=>?_
 refine Xi (h6.mn.eq h8.mn (λc=>by rw[Y,J,m8,m7,or_assoc]) λcs _=>and_assoc.symm) ?_
 o_law
 refine ZH ?_
 o_law
 refine ZH ?_
 o_law
 refine Z2 m YI (op:=Or) YW r hC (by decide) λn5 N5 I J d5=>?_
 o_law
 refine Z2 m YI (op:=Or) YW j I (by decide) λn6 N6 h6 Y d6=>?_
 o_law
 refine ZH ?_
 o_law
 refine ZH ?_
 o_law
 refine Z2 m YI (op:=Or) YW j r (by decide) λX N7 R m7 d7=>?_
 o_law
 refine Z2 m YI (op:=Or) YW R hC (by decide) λn8 N8 h8 m8 d8=>?_
 refine Xi (h6.mn.eq h8.mn (λc=>by rw[Y,J,m8,m7,or_assoc]) λcs _=>or_assoc.symm) ?_
 o_law
 refine ZH ?_
 o_law
 refine Z2 m YU (op:=And) YV j r (by decide) λn5 N5 I J d5=>?_
 o_law
 refine Xv I.mn.1 ?_
 o_law
 refine ZH ?_
 o_law
 refine Xv j.mn.1 ?_
 o_law
 refine Xv r.mn.1 ?_
 o_law
 refine Z2 m YI (op:=Or) YW j.no r.no (by decide) λn6 N6 h6 Y d6=>?_
 refine Xi ((T8 I.mn).eq h6.mn (λc=>by rw[J,Y]) λcs _=>by by_cases x:FA cs<;>by_cases y:FB cs<;>simp[x,y]) ?_
 o_law
 refine ZH ?_
 o_law
 refine Z2 m YI (op:=Or) YW j r (by decide) λn5 N5 I J d5=>?_
 o_law
 refine Xv I.mn.1 ?_
 o_law
 refine ZH ?_
 o_law
 refine Xv j.mn.1 ?_
 o_law
 refine Xv r.mn.1 ?_
 o_law
 refine Z2 m YU (op:=And) YV j.no r.no (by decide) λn6 N6 h6 Y d6=>?_
 refine Xi ((T8 I.mn).eq h6.mn (λc=>by rw[J,Y]) λcs _=>by by_cases x:FA cs<;>by_cases y:FB cs<;>simp[x,y]) ?_
 o_law
 refine Xv j.mn.1 ?_
 o_law
 refine Xv j.no.mn.1 ?_
 o_law
 refine Xi (⟨rfl,Dv j.mn.1.b1⟩) ?_
 o_law
 refine ZH ?_
 o_law
 refine Z2 m YU (op:=And) YV j j (by decide) λn5 N5 I J d5=>?_
 o_law
 refine Xi (I.mn.eq j.mn (λc=>by rw[J,or_self]) λcs _=>by simp) ?_
 o_law
 refine ZH ?_
 o_law
 refine Z2 m YI (op:=Or) YW j j (by decide) λn5 N5 I J d5=>?_
 o_law
 refine Xi (I.mn.eq j.mn (λc=>by rw[J,or_self]) λcs _=>by simp) ?_
 o_law
 refine ZH ?_
 o_law
 refine ZH ?_
 o_law
 refine Xv r.mn.1 ?_
 o_law
 refine Z2 m YI (op:=Or) YW r r.no (by decide) λn5 N5 I J d5=>?_
 o_law
 refine Z2 m YU (op:=And) YV j I (by decide) λn6 N6 h6 Y d6=>?_
 o_law
 refine ZH ?_
 o_law
 refine ZH ?_
 o_law
 refine Z2 m YU (op:=And) YV j r (by decide) λX N7 R m7 d7=>?_
 o_law
 refine ZH ?_
 o_law
 refine Xv r.mn.1 ?_
 o_law
 refine Z2 m YU (op:=And) YV j r.no (by decide) λn8 N8 h8 m8 d8=>?_
 o_law
 obtain rfl:X=n8:=OnceN.one (xs:=X) R.mn.1.s ⟨h8.mn.1.s.s,h8.mn.1.s.d,λc=>(m8 c).trans (m7 c).symm⟩
 have hV:∀ w,Dgb (b ^ X.length) w->(rm RA.rows (w.map (phi b X na)),rm RB.rows (w.map (phi b X nb)))∈Xu RA.rows.length RB.rows.length:=λw hw=>WO.mpr ⟨j.mn.1.p.rm _ _ rfl λx hx=>by
  obtain⟨y,Z,rfl⟩:=mem_map.mp hx
  rw[j.mn.1.lt]
  exact V0 ⟨u,R.mn.1.n.1,R.mn.1.n.2,j.mn.1.n.1,λc hc=>(m7 c).mpr (.inl hc)⟩ (hw y Z),r.mn.1.p.rm _ _ rfl λx hx=>by
  obtain⟨y,Z,rfl⟩:=mem_map.mp hx
  rw[r.mn.1.lt]
  exact V0 ⟨u,R.mn.1.n.1,R.mn.1.n.2,r.mn.1.n.1,λc hc=>(m7 c).mpr (.inr hc)⟩ (hw y Z)⟩
 obtain⟨U,hU,pr⟩:=lock (g:=Vk) R.mn.1 h8.mn.1 YI (λw=>(rm RA.rows (w.map (phi b X na)),rm RB.rows (w.map (phi b X nb)))) (by rw[T6];exact Nat.le_trans (Nat.mul_le_mul j.k r.k) (by decide)) hV λw v hw hv e=>⟨d7 w v hw hv (Prod.mk.inj e).1 (Prod.mk.inj e).2,d8 w v hw hv (Prod.mk.inj e).1 (Prod.mk.inj e).2⟩
 refine Lj YI (op:=Or) YW R.mn h8.mn pr λn9 N9 h9 m9 _ _=>?_
 refine Xi (h6.mn.eq h9 (λc=>by rw[Y,J,m9,m7,or_self,or_self]) λcs _=>by by_cases x:FA cs<;>by_cases y:FB cs<;>simp[x,y]) ?_
 o_law
 refine Z9 rfl ?_
 rw[length_map]
 o_law
 obtain⟨p,hp,ep⟩:=pick hl0 (h0 / 64)
 refine ZL rfl ep Zs.d ?_
 o_law
 refine Z9 rfl ?_
 rw[length_map]
 o_law
 obtain⟨q,hq,eq⟩:=pick hl0 (h0 / 256)
 refine ZL rfl eq Zs.d ?_
 have i0:atI [dM M,dM N] 0=some (dM M):=rfl
 have i1:atI [dM M,dM N] 1=some (dM N):=rfl
 o_law
 refine ZL (ds:=[dM M,dM N]) rfl i0 (Zs.flat (YC M)) ?_
 o_law
 refine ZL (ds:=[dM M,dM N]) rfl i1 (Zs.flat (YC N)) ?_
 o_law
 refine Sn (C.sl u Q) λs1 L1 o1=>?_
 obtain⟨o1,p1⟩:=So u C Q hp hq o1
 rw[C.b]
 o_law
 refine ZL (ds:=[dM M,dM N]) rfl i1 (Zs.flat (YC N)) ?_
 o_law
 refine ZL (ds:=[dM M,dM N]) rfl i0 (Zs.flat (YC M)) ?_
 o_law
 refine Sn (Q.sl u C) λs2 L2 o2=>?_
 obtain⟨o2,p2⟩:=So u Q C hq hp o2
 rw[Q.b]
 refine Xi (o1.mn.eq o2.mn (λc=>(p1 c).trans (Or.comm.trans (p2 c).symm)) λcs _=>eq_comm) ?_
 o_law
 refine ZL (ds:=[dM M,dM N]) rfl i0 (Zs.flat (YC M)) ?_
 o_law
 refine ZL (ds:=[dM M,dM N]) rfl i1 (Zs.flat (YC N)) ?_
 o_law
 refine Sn (C.sl u Q) λs3 L3 o3=>?_
 obtain⟨o3,p3⟩:=So u C Q hp hq o3
 rw[C.b]
 o_law
 refine ZH ?_
 o_law
 refine⟨⟨b,us,M,N,p,q⟩,[.d (dRr M N),.d (dS p),.d (dS q)],.cons (.d NR.bor rfl) (.cons (.d NR.av rfl) (.cons (.d NR.av rfl) .nil)),⟨rfl,u,m,hp,hq,C,Q⟩,λc ⟨s4,L4,o4,p4,S⟩=>?_,λ_ z=>z.elim⟩
 subst S
 refine⟨_,Got.own (YT _ _ _),?_⟩
 refine Xi (o3.mn.eq o4 (λc=>(p3 c).trans (p4 c).symm) λcs hc=>⟨λe=>?_,λ⟨s,_,e1,e2⟩=>e1.trans e2.symm⟩) ?_
 ·have hd:Dgb (bs M) (wC b [p] cs):=by rw[C.b];exact wC1 u hc
  have:=C.s _ (V3 C.p hd)
  have e':sgw M (wC b [p] cs)=sgw N (wC b [q] cs):=e
  exact⟨(sgw M (wC b [p] cs)).toNat,by omega,by show sgw M (wC b [p] cs)=_;omega,by show sgw N (wC b [q] cs)=_;omega⟩
 o_law
 refine ZH ?_
 o_law
 obtain⟨x,y,W,rfl⟩:∃ x y W,us=x::y::W:=by
  match us,hu2 with
  | x::y::W,_=>exact⟨x,y,W,rfl⟩
 refine ZL (ds:=(x::y::W).map dS) rfl (show atI ((x::y::W).map dS) ((0:Nat):Int)=some (dS x) from Vv rfl) Zs.d ?_
 o_law
 refine ZL (ds:=(x::y::W).map dS) rfl (show atI ((x::y::W).map dS) ((1:Nat):Int)=some (dS y) from Vv rfl) Zs.d ?_
 o_law
 refine⟨(b,x::y::W,x,y),[.d (.int b),.d (dS x),.d (dS y)],.cons (.d NR.av rfl) (.cons (.d NR.av rfl) (.cons (.d NR.av rfl) .nil)),⟨rfl,u,m,.head _,.tail _ (.head _)⟩,λc S=>?_,λ_ z=>z.elim⟩
 have S:c=.d (.bool true):=S
 subst S
 exact⟨_,Got.own rfl,Zt rfl⟩
end
instance tabs0:Tabs:=⟨ts0⟩
variable{P:List Value->Prop}
theorem Cn(h:P []):∀ us,us.length=0->P us:=λus e=>(List.eq_nil_of_length_eq_zero e).symm▸h
theorem V6(h:∀ a us,us.length=n->P (a::us))(us:List Value)(e:us.length=n+1):P us:=by
  cases us with
  | nil=>cases e
  | cons a us=>exact h a us (Nat.succ.inj e)
theorem Xj(h:∀ a,P [a]):∀ us,us.length=1->P us:=V6 λa=>Cn (P:=λus=>P (a::us)) (h a)
theorem Xw(h:∀ a a1,P [a,a1]):∀ us,us.length=2->P us:=V6 λa=>Xj (P:=λus=>P (a::us)) (h a)
theorem Wa(h:∀ a a1 a2,P [a,a1,a2]):∀ us,us.length=3->P us:=V6 λa=>Xw (P:=λus=>P (a::us)) (h a)
theorem UI(h:∀ a a1 a2 b,P [a,a1,a2,b]):∀ us,us.length=4->P us:=V6 λa=>Wa (P:=λus=>P (a::us)) (h a)
theorem UJ(h:∀ a a1 a2 b a4,P [a,a1,a2,b,a4]):∀ us,us.length=5->P us:=V6 λa=>UI (P:=λus=>P (a::us)) (h a)
theorem Co(h:∀ a a1 a2 b a4 a5,P [a,a1,a2,b,a4,a5]):∀ us,us.length=6->P us:=V6 λa=>UJ (P:=λus=>P (a::us)) (h a)
theorem Q4:∀ (us:List Value),us.length=1->∃ a,us=[a]:=Xj λa=>⟨a,rfl⟩
theorem Sq:∀ (us:List Value),us.length=2->∃ a a1,us=[a,a1]:=Xw λa a1=>⟨a,a1,rfl⟩
theorem Cp:∀ (us:List Value),us.length=3->∃ a a1 a2,us=[a,a1,a2]:=Wa λa a1 a2=>⟨a,a1,a2,rfl⟩
abbrev fO (x:Str)(s:Stmt)(kV dc pm:Value)(an:Option Addr)(cd ct:Value):=PySem.W.fnOf x x (ZP s) (Zv s) (Zd s) .none kV dc pm an cd ct
theorem Cq{l:PySem.W.OpenLaw}{w:World}{h:Heap}{M:Addr}(X:K.In h)(G:h.Ns mainGlobals mg)(L:mg "law" = some (.ref M))
  {t_LEAST_BASE:Tok} (g_LEAST_BASE:W.nsIn K mainGlobals "LEAST_BASE" = some (some (.int 2 t_LEAST_BASE)))
  {t_GREATEST_BASE:Tok} (g_GREATEST_BASE:W.nsIn K mainGlobals "GREATEST_BASE" = some (some (.int 5 t_GREATEST_BASE)))
  {t_MOST_ROOMS:Tok} (g_MOST_ROOMS:W.nsIn K mainGlobals "MOST_ROOMS" = some (some (.int 100 t_MOST_ROOMS)))
  {t_MOST_LETTERS:Tok} (g_MOST_LETTERS:W.nsIn K mainGlobals "MOST_LETTERS" = some (some (.int 64 t_MOST_LETTERS)))
  {t_MOST_NAMES:Tok} (g_MOST_NAMES:W.nsIn K mainGlobals "MOST_NAMES" = some (some (.int 4 t_MOST_NAMES)))
  {t_MOST_FIGURES:Tok} (g_MOST_FIGURES:W.nsIn K mainGlobals "MOST_FIGURES" = some (some (.int 98 t_MOST_FIGURES)))
  (z_enumerate:W.nsIn K mainGlobals "enumerate" = some none)
  (z_len:W.nsIn K mainGlobals "len" = some none)
  (z_list:W.nsIn K mainGlobals "list" = some none)
  (z_max:W.nsIn K mainGlobals "max" = some none)
  (z_min:W.nsIn K mainGlobals "min" = some none)
  (z_range:W.nsIn K mainGlobals "range" = some none)
  (z_set:W.nsIn K mainGlobals "set" = some none)
  (z_sorted:W.nsIn K mainGlobals "sorted" = some none)
  (z_sum:W.nsIn K mainGlobals "sum" = some none)
  (z_tuple:W.nsIn K mainGlobals "tuple" = some none)
  (z_zip:W.nsIn K mainGlobals "zip" = some none)
  (D0:ZN K "want_base" RV)
  
  {Q:Addr} {x:Value} {E:Option Addr} {p:Array (Option Value)} {i:Tok} {J:Nat}
  (a1:W.nsIn K mainGlobals "figures_of" = some (some (.ref f1))) (l1:K.lookup f1=some ⟨oc1,od1,.func (PySem.W.fnOf "figures_of" "figures_of" (ZP Uu) (Zv Uu) (Zd Uu) (.ref Q) kV1 dc1 pm1 an1 cd1 ct1),sl1⟩)
  (d1:K.lookup Q=some ⟨x,E,.seq #[.int 2 i] J,p⟩) (c1:W.codeIn K cd1 "figures_of" = true) (k1:W.keepIn K (.ref f1)=true)
  
  {P:Addr} {u:Value} {C:Option Addr} {n:Array (Option Value)} {g:Tok} {I:Nat}
  (a2:W.nsIn K mainGlobals "number_of" = some (some (.ref f2))) (l2:K.lookup f2=some ⟨oc2,od2,.func (PySem.W.fnOf "number_of" "number_of" (ZP Uv) (Zv Uv) (Zd Uv) (.ref P) kV2 dc2 pm2 an2 cd2 ct2),sl2⟩)
  (d2:K.lookup P=some ⟨u,C,.seq #[.int 2 g] I,n⟩) (c2:W.codeIn K cd2 "number_of" = true) (k2:W.keepIn K (.ref f2)=true)
  (D3:ZN K "filled" RW)
  
  {O:Addr} {r:Value} {A:Option Addr} {m:Array (Option Value)} {f:Tok} {H:Nat}
  (a4:W.nsIn K mainGlobals "code_of" = some (some (.ref f4))) (l4:K.lookup f4=some ⟨oc4,od4,.func (PySem.W.fnOf "code_of" "code_of" (ZP Uw) (Zv Uw) (Zd Uw) (.ref O) kV4 dc4 pm4 an4 cd4 ct4),sl4⟩)
  (d4:K.lookup O=some ⟨r,A,.seq #[.int 2 f] H,m⟩) (c4:W.codeIn K cd4 "code_of" = true) (k4:W.keepIn K (.ref f4)=true)
  
  {N:Addr} {q:Value} {y:Option Addr} {j:Array (Option Value)} {c:Tok} {F:Nat}
  (a5:W.nsIn K mainGlobals "column_of" = some (some (.ref f5))) (l5:K.lookup f5=some ⟨oc5,od5,.func (PySem.W.fnOf "column_of" "column_of" (ZP Ux) (Zv Ux) (Zd Ux) (.ref N) kV5 dc5 pm5 an5 cd5 ct5),sl5⟩)
  (d5:K.lookup N=some ⟨q,y,.seq #[.int 2 c] F,j⟩) (c5:W.codeIn K cd5 "column_of" = true) (k5:W.keepIn K (.ref f5)=true)
  (D6:ZN K "met_from" RX)
  (D7:ZN K "machine_met" RY)
  
  (a8:W.nsIn K mainGlobals "reached_by" = some (some (.ref f8))) (l8:K.lookup f8=some ⟨oc8,od8,.func (fO "reached_by" Xa kV8 dc8 pm8 an8 (.ref q8) ct8),sl8⟩) (c8:W.codeIn K (.ref q8) "reached_by" = true) (k8:W.keepIn K (.ref f8)=true) (m8:W.codeHdIn K q8 X2=true)
  (D9:ZN K "first_equals" RZ)
  (D10:ZN K "parted" R0)
  (D11:ZN K "first_alike" R3)
  (D12:ZN K "least" R4)
  (D13:ZN K "least_met" R5)
  (D14:ZN K "base_of" R6)
  (D15:ZN K "letters_for" R7)
  (D16:ZN K "rising" R8)
  (D17:ZN K "want_width" R9)
  (D18:ZN K "codes_within" Qa)
  
  (a19:W.nsIn K mainGlobals "paired" = some (some (.ref f19))) (l19:K.lookup f19=some ⟨oc19,od19,.func (fO "paired" Xb kV19 dc19 pm19 an19 (.ref q19) ct19),sl19⟩) (c19:W.codeIn K (.ref q19) "paired" = true) (k19:W.keepIn K (.ref f19)=true) (m19:W.codeHdIn K q19 X3=true)
  (D20:ZN K "joined" Qb)
  
  (a21:W.nsIn K mainGlobals "both" = some (some (.ref f21))) (l21:K.lookup f21=some ⟨oc21,od21,.func (fO "both" Wz kV21 dc21 pm21 an21 (.ref q21) ct21),sl21⟩) (c21:W.codeIn K (.ref q21) "both" = true) (k21:W.keepIn K (.ref f21)=true) (m21:W.codeHdIn K q21 Vg=true)
  
  (a22:W.nsIn K mainGlobals "either" = some (some (.ref f22))) (l22:K.lookup f22=some ⟨oc22,od22,.func (fO "either" WB kV22 dc22 pm22 an22 (.ref q22) ct22),sl22⟩) (c22:W.codeIn K (.ref q22) "either" = true) (k22:W.keepIn K (.ref f22)=true) (m22:W.codeHdIn K q22 Vh=true)
  (D23:ZN K "no" Qf)
  (D24:ZN K "letters_in" Qh)
  (D25:ZN K "want_like" Qi)
  (D26:ZN K "as_sign" Qj)
  (D27:ZN K "sign_is" Qk)
  
  (a28:W.nsIn K mainGlobals "signs_like" = some (some (.ref f28))) (l28:K.lookup f28=some ⟨oc28,od28,.func (fO "signs_like" WD kV28 dc28 pm28 an28 (.ref q28) ct28),sl28⟩) (c28:W.codeIn K (.ref q28) "signs_like" = true) (k28:W.keepIn K (.ref f28)=true) (m28:W.codeHdIn K q28 Vi=true)
  (D29:ZN K "gain_of" Qm)
  
  (a30:W.nsIn K mainGlobals "sums" = some (some (.ref f30))) (l30:K.lookup f30=some ⟨oc30,od30,.func (fO "sums" Xc kV30 dc30 pm30 an30 (.ref q30) ct30),sl30⟩) (c30:W.codeIn K (.ref q30) "sums" = true) (k30:W.keepIn K (.ref f30)=true) (m30:W.codeHdIn K q30 X4=true)
  
  (a31:W.nsIn K mainGlobals "place_is" = some (some (.ref f31))) (l31:K.lookup f31=some ⟨oc31,od31,.func (fO "place_is" Xd kV31 dc31 pm31 an31 (.ref q31) ct31),sl31⟩) (c31:W.codeIn K (.ref q31) "place_is" = true) (k31:W.keepIn K (.ref f31)=true) (m31:W.codeHdIn K q31 X5=true)
  (D32:ZN K "_law_cell" Qn)
  (D33:ZN K "_law_machine" Qo)
  (D34:ZN K "_law_names" Qp)
  (D35:ZN K "_law_leaf" Qq)
  (D36:ZN K "_law_leaf_made" Qr)
  (D37:ZN K "_law_by_signs" Qs)
  (D38:ZN K "_law_orders" Qt)
   (aL:W.nsIn K mainGlobals "law" = some (some (.ref fL))) (lL:K.lookup fL=some ⟨ocL,odL,.func (fO "law" TJ kVL dcL pmL anL cdL ctL),slL⟩) (cL:W.codeIn K cdL "law" = true) (kL:W.keepIn K (.ref fL)=true) :
  ∃ fd:FuncData,(∀ (s:Shared) (v:Value),BindsTo s fd ⟨[v],[]⟩ [("_law_script",v)])/\∀ base:Heap,K.In base->base.Ns mainGlobals mg->base.BuiltinsAt mg mainGlobals->FnOk l.prog w K mg base CX0 13 M fd ["_law_script"] (Us K):=by
 have e:=L.symm.trans (PySem.W.mg_of X G aL)
 cases e
 have T:Txt K mg:=⟨VC X G g_LEAST_BASE,
  VC X G g_GREATEST_BASE,
  VC X G g_MOST_ROOMS,
  VC X G g_MOST_LETTERS,
  VC X G g_MOST_NAMES,
  VC X G g_MOST_FIGURES,
  PySem.W.mg_none_of X G z_enumerate,
  PySem.W.mg_none_of X G z_len,
  PySem.W.mg_none_of X G z_list,
  PySem.W.mg_none_of X G z_max,
  PySem.W.mg_none_of X G z_min,
  PySem.W.mg_none_of X G z_range,
  PySem.W.mg_none_of X G z_set,
  PySem.W.mg_none_of X G z_sorted,
  PySem.W.mg_none_of X G z_sum,
  PySem.W.mg_none_of X G z_tuple,
  PySem.W.mg_none_of X G z_zip,
  ZT X G D0 (λ_ _ _ _ _ _=>(Xj λ_=>rfl)),
  U2 X G a1 l1 d1 c1 k1 (λs us b a=>by obtain⟨_,_,rfl⟩:=Sq us (by simpa using a);exact PySem.W.binds_K b rfl d1 rfl rfl rfl) (λs us b a=>by obtain⟨_,rfl⟩:=Q4 us (by simpa using a);exact PySem.W.binds_K b rfl d1 rfl rfl rfl),
  U2 X G a2 l2 d2 c2 k2 (λs us b a=>by obtain⟨_,_,rfl⟩:=Sq us (by simpa using a);exact PySem.W.binds_K b rfl d2 rfl rfl rfl) (λs us b a=>by obtain⟨_,rfl⟩:=Q4 us (by simpa using a);exact PySem.W.binds_K b rfl d2 rfl rfl rfl),
  ZT X G D3 (λ_ _ _ _ _ _=>(Xw λ_ _=>rfl)),
  U2 X G a4 l4 d4 c4 k4 (λs us b a=>by obtain⟨_,_,rfl⟩:=Sq us (by simpa using a);exact PySem.W.binds_K b rfl d4 rfl rfl rfl) (λs us b a=>by obtain⟨_,rfl⟩:=Q4 us (by simpa using a);exact PySem.W.binds_K b rfl d4 rfl rfl rfl),
  U2 X G a5 l5 d5 c5 k5 (λs us b a=>by obtain⟨_,_,_,rfl⟩:=Cp us (by simpa using a);exact PySem.W.binds_K b rfl d5 rfl rfl rfl) (λs us b a=>by obtain⟨_,_,rfl⟩:=Sq us (by simpa using a);exact PySem.W.binds_K b rfl d5 rfl rfl rfl),
  ZT X G D6 (λ_ _ _ _ _ _=>(UI λ_ _ _ _=>rfl)),
  ZT X G D7 (λ_ _ _ _ _ _=>(UJ λ_ _ _ _ _=>rfl)),
  ⟨q8,Vb X G a8 l8 c8 k8 m8 (Xw λ_ _=>rfl)⟩,
  ZT X G D9 (λ_ _ _ _ _ _=>(Xj λ_=>rfl)),
  ZT X G D10 (λ_ _ _ _ _ _=>(Xw λ_ _=>rfl)),
  ZT X G D11 (λ_ _ _ _ _ _=>(Xj λ_=>rfl)),
  ZT X G D12 (λ_ _ _ _ _ _=>(Xj λ_=>rfl)),
  ZT X G D13 (λ_ _ _ _ _ _=>(UJ λ_ _ _ _ _=>rfl)),
  ZT X G D14 (λ_ _ _ _ _ _=>(Xj λ_=>rfl)),
  ZT X G D15 (λ_ _ _ _ _ _=>(Xw λ_ _=>rfl)),
  ZT X G D16 (λ_ _ _ _ _ _=>(Xj λ_=>rfl)),
  ZT X G D17 (λ_ _ _ _ _ _=>(Xw λ_ _=>rfl)),
  ZT X G D18 (λ_ _ _ _ _ _=>(Wa λ_ _ _=>rfl)),
  ⟨q19,Vb X G a19 l19 c19 k19 m19 (Co λ_ _ _ _ _ _=>rfl)⟩,
  ZT X G D20 (λ_ _ _ _ _ _=>(Wa λ_ _ _=>rfl)),
  ⟨q21,Vb X G a21 l21 c21 k21 m21 (Xw λ_ _=>rfl)⟩,
  ⟨q22,Vb X G a22 l22 c22 k22 m22 (Xw λ_ _=>rfl)⟩,
  ZT X G D23 (λ_ _ _ _ _ _=>(Xj λ_=>rfl)),
  ZT X G D24 (λ_ _ _ _ _ _=>(Xj λ_=>rfl)),
  ZT X G D25 (λ_ _ _ _ _ _=>(Xw λ_ _=>rfl)),
  ZT X G D26 (λ_ _ _ _ _ _=>(Xj λ_=>rfl)),
  ZT X G D27 (λ_ _ _ _ _ _=>(Wa λ_ _ _=>rfl)),
  ⟨q28,Vb X G a28 l28 c28 k28 m28 (UI λ_ _ _ _=>rfl)⟩,
  ZT X G D29 (λ_ _ _ _ _ _=>(UI λ_ _ _ _=>rfl)),
  ⟨q30,Vb X G a30 l30 c30 k30 m30 (UI λ_ _ _ _=>rfl)⟩,
  ⟨q31,Vb X G a31 l31 c31 k31 m31 (Wa λ_ _ _=>rfl)⟩,
  ZT X G D32 (λ_ _ _ _ _ _=>(Xw λ_ _=>rfl)),
  ZT X G D33 (λ_ _ _ _ _ _=>(UJ λ_ _ _ _ _=>rfl)),
  ZT X G D34 (λ_ _ _ _ _ _=>(Xj λ_=>rfl)),
  ZT X G D35 (λ_ _ _ _ _ _=>(UJ λ_ _ _ _ _=>rfl)),
  ZT X G D36 (λ_ _ _ _ _ _=>(Wa λ_ _ _=>rfl)),
  ZT X G D37 (λ_ _ _ _ _ _=>(Wa λ_ _ _=>rfl)),
  ZT X G D38 (λ_ _ _ _ _ _=>(Wa λ_ _ _=>rfl))⟩
 exact⟨fO "law" TJ kVL dcL pmL anL cdL ctL,λs v=>.of_eq rfl,λbase _ _ B=>Cm T B (λ_ h=>h) ⟨⟨ocL,odL,kVL,dcL,pmL,anL,cdL,ctL,slL,rfl,lL,cL⟩,kL⟩⟩
theorem walk{l:PySem.W.OpenLaw}{q:Program}{loose:List Str}{XP:(Str->Option Value)->Heap->Prop}{YP:World->Heap->Prop}{d:DefRec}{K:Params->W.Frag}(hn:l.most=some 63)(b:d.params.defaults=[])
  (j:∀ (w:World) (h:Heap),YP w h->(K w.params).In h) (hYt:∀ (w:World) (h:Heap),YP w h->∀ p∈ts0,h.get? p.1=some (PySem.W.tabObj #[])) (hK:∀ (w:World) (p:Addr×(Nat->Nat->Str)),p∈ts0->(K w.params).lookup p.1=none/\∃ c,PySem.W.codeHdIn (K w.params) c p.1=true)
  (F:∀ (w:World) (mg:Str->Option Value) (e:Addr) (h:Heap),(K w.params).In h->h.Ns mainGlobals mg->mg d.name=some (.ref e) ->
   ∃ fd:FuncData,(∀ (s:Shared) (u:Value),BindsTo s fd ⟨[u],[]⟩ [("_law_script",u)])/\∀ base:Heap,(K w.params).In base->base.Ns mainGlobals mg->base.BuiltinsAt mg mainGlobals->FnOk l.prog w (K w.params) mg base CX0 13 e fd ["_law_script"] (Us (K w.params))) :
  PySem.W.WalkO q loose XP YP l.row.toRowW d [] (λf vs=>PySem.call f vs) :=
 L2.HR (ts:=ts0) (n:=63) (k:=13) (x := "_law_script") (CX:=λ_=>CX0) (sp:=λw=>Us (K w.params)) (by decide) hn (by decide) b ⟨rfl,by decide,by decide⟩ j hYt hK F (λ_ _ a ns g i r v=>⟨r,a,ns,rfl,v,g,i,λ_ m=>⟨rfl,m⟩⟩) λ_ _ _ _ _ z=>z
variable{oc kV dc pm ct:Value}{od an:Option Addr}
theorem Cr{f q:Addr}{sl:Array (Option Value)}(a:W.nsIn K mainGlobals "reached_by" = some (some (.ref f)))(l:K.lookup f=some ⟨oc,od,.func (fO "reached_by" Xa kV dc pm an (.ref q) ct),sl⟩)(m:W.codeHdIn K q X2=true):∃ c,W.codeHdIn K c X2=true:=⟨q,m⟩
theorem Cs{f q:Addr}{sl:Array (Option Value)}(a:W.nsIn K mainGlobals "paired" = some (some (.ref f)))(l:K.lookup f=some ⟨oc,od,.func (fO "paired" Xb kV dc pm an (.ref q) ct),sl⟩)(m:W.codeHdIn K q X3=true):∃ c,W.codeHdIn K c X3=true:=⟨q,m⟩
theorem Ct{f q:Addr}{sl:Array (Option Value)}(a:W.nsIn K mainGlobals "both" = some (some (.ref f)))(l:K.lookup f=some ⟨oc,od,.func (fO "both" Wz kV dc pm an (.ref q) ct),sl⟩)(m:W.codeHdIn K q Vg=true):∃ c,W.codeHdIn K c Vg=true:=⟨q,m⟩
theorem Cu{f q:Addr}{sl:Array (Option Value)}(a:W.nsIn K mainGlobals "either" = some (some (.ref f)))(l:K.lookup f=some ⟨oc,od,.func (fO "either" WB kV dc pm an (.ref q) ct),sl⟩)(m:W.codeHdIn K q Vh=true):∃ c,W.codeHdIn K c Vh=true:=⟨q,m⟩
theorem Cv{f q:Addr}{sl:Array (Option Value)}(a:W.nsIn K mainGlobals "signs_like" = some (some (.ref f)))(l:K.lookup f=some ⟨oc,od,.func (fO "signs_like" WD kV dc pm an (.ref q) ct),sl⟩)(m:W.codeHdIn K q Vi=true):∃ c,W.codeHdIn K c Vi=true:=⟨q,m⟩
theorem Cw{f q:Addr}{sl:Array (Option Value)}(a:W.nsIn K mainGlobals "sums" = some (some (.ref f)))(l:K.lookup f=some ⟨oc,od,.func (fO "sums" Xc kV dc pm an (.ref q) ct),sl⟩)(m:W.codeHdIn K q X4=true):∃ c,W.codeHdIn K c X4=true:=⟨q,m⟩
theorem Cy{f q:Addr}{sl:Array (Option Value)}(a:W.nsIn K mainGlobals "place_is" = some (some (.ref f)))(l:K.lookup f=some ⟨oc,od,.func (fO "place_is" Xd kV dc pm an (.ref q) ct),sl⟩)(m:W.codeHdIn K q X5=true):∃ c,W.codeHdIn K c X5=true:=⟨q,m⟩
end K35
namespace PySem.W.Fast
theorem tw9740443829347895599:True:=⟨⟩
theorem tw9522429819635657255:True:=⟨⟩
theorem tw8509585815935519369:True:=⟨⟩
theorem tw194443536675784171:True:=⟨⟩
theorem tw13494184999989350082:True:=⟨⟩
theorem tw10403067234965053173:True:=⟨⟩
theorem tw5259309375009865887:True:=⟨⟩
theorem tw13519131530183008252:True:=⟨⟩
theorem tw9929692130923256030:True:=⟨⟩
theorem tw11558164776947598534:True:=⟨⟩
theorem tw17412265356684121286:True:=⟨⟩
theorem tw13623947077444585668:True:=⟨⟩
theorem tw15913746300569757375:True:=⟨⟩
theorem tw5274711757437611748:True:=⟨⟩
theorem tw9313851452597963943:True:=⟨⟩
theorem tw10818492920002027444:True:=⟨⟩
theorem tw14833121069102839362:True:=⟨⟩
theorem tw3545369992884584880:True:=⟨⟩
theorem tw7099215138659347428:True:=⟨⟩
theorem tw5696407139983314234:True:=⟨⟩
theorem tw3757395953316894045:True:=⟨⟩
theorem tw13940157323483906966:True:=⟨⟩
theorem tw8793473561740153269:True:=⟨⟩
theorem tw16293213230190324778:True:=⟨⟩
theorem tw12278257441303161424:True:=⟨⟩
theorem tw4526998293341328696:True:=⟨⟩
theorem tw3094080821154289177:True:=⟨⟩
theorem tw7714421237185074430:True:=⟨⟩
theorem tw7364614368097652182:True:=⟨⟩
theorem tw16151373293561955601:True:=⟨⟩
theorem tw2426750457045381699:True:=⟨⟩
theorem tw8500727952224107477:True:=⟨⟩
theorem tw13528980074211436080:True:=⟨⟩
theorem tw5732545075721708439:True:=⟨⟩
theorem tw4552967362283120885:True:=⟨⟩
theorem tw2557061621924785648:True:=⟨⟩
theorem tw2330829885066070151:True:=⟨⟩
theorem tw14120379867224309694:True:=⟨⟩
theorem tw14941785106850296218:True:=⟨⟩
theorem tw15701659718273467939:True:=⟨⟩
theorem tw7757461087063090807:True:=⟨⟩
theorem tw8690654771717099003:True:=⟨⟩
theorem tw242210818598443334:True:=⟨⟩
theorem tw13953710965399180379:True:=⟨⟩
theorem tw9977734046677546444:True:=⟨⟩
theorem tw1468533777005255021:True:=⟨⟩
theorem tw18262247869389871229:True:=⟨⟩
theorem tw2383571651153770517:True:=⟨⟩
theorem tw17373604424006081221:True:=⟨⟩
theorem tw12876279104122544620:True:=⟨⟩
theorem tw12974328036853774549:True:=⟨⟩
theorem tw1259812377404433854:True:=⟨⟩
theorem tw10899754462589485936:True:=⟨⟩
theorem tw3233057062920834270:True:=⟨⟩
theorem tw10191691897641721824:True:=⟨⟩
theorem tw15054879404819840056:True:=⟨⟩
theorem tw9527423640207451021:True:=⟨⟩
theorem tw2040166524752247422:True:=⟨⟩
theorem tw11768878479373063159:True:=⟨⟩
theorem tw7489430915197421186:True:=⟨⟩
theorem tw9131458781146897290:True:=⟨⟩
theorem tw13171365908533599343:True:=⟨⟩
theorem tw13395632851767183221:True:=⟨⟩
theorem tw15337629960015135750:True:=⟨⟩
theorem tw9625580666604458272:True:=⟨⟩
theorem tw15913540171634781258:True:=⟨⟩
theorem tw1998973348708111658:True:=⟨⟩
theorem tw8908305604139304285:True:=⟨⟩
theorem tw7196885730824528505:True:=⟨⟩
theorem tw4271258885838256875:True:=⟨⟩
theorem tw4990203364648938094:True:=⟨⟩
theorem tw3294995125229510260:True:=⟨⟩
theorem tw11512576489209649990:True:=⟨⟩
theorem tw10517848239355198125:True:=⟨⟩
theorem tw555923651354055415:True:=⟨⟩
theorem tw10254519204182628998:True:=⟨⟩
theorem tw7881069696673749392:True:=⟨⟩
theorem tw306589559347986621:True:=⟨⟩
theorem tw14801373278094504570:True:=⟨⟩
theorem tw700581427633961967:True:=⟨⟩
theorem tw9155337748677450449:True:=⟨⟩
theorem tw1028945458381333616:True:=⟨⟩
theorem tw1192206473379680574:True:=⟨⟩
theorem tw15889978875534776308:True:=⟨⟩
theorem tw15201384039904635135:True:=⟨⟩
theorem tw16818165860452253439:True:=⟨⟩
theorem tw910521206090765786:True:=⟨⟩
theorem tw9476467991808817209:True:=⟨⟩
theorem tw410525839900050890:True:=⟨⟩
theorem tw2493795927088981155:True:=⟨⟩
theorem tw800675307753161824:True:=⟨⟩
theorem tw17423271765693138596:True:=⟨⟩
theorem tw13756569906291393582:True:=⟨⟩
theorem tw1156517937382126222:True:=⟨⟩
theorem tw13820849635738033720:True:=⟨⟩
theorem tw7857461018444884551:True:=⟨⟩
theorem tw3199718289118506515:True:=⟨⟩
theorem tw1869917871316184951:True:=⟨⟩
theorem tw15424445343404492083:True:=⟨⟩
theorem tw2525689994270242446:True:=⟨⟩
theorem tw1388865441971431119:True:=⟨⟩
theorem tw8714264082760198212:True:=⟨⟩
theorem tw1844305154075411328:True:=⟨⟩
theorem tw15548141224150796073:True:=⟨⟩
theorem tw4018698006820804511:True:=⟨⟩
theorem tw11244548432364816831:True:=⟨⟩
theorem tw12988123271933074849:True:=⟨⟩
theorem tw1779112681093022835:True:=⟨⟩
theorem tw2867278514728099897:True:=⟨⟩
theorem tw10896553599082365386:True:=⟨⟩
theorem tw9001947856966791498:True:=⟨⟩
theorem tw18194897939356050092:True:=⟨⟩
theorem tw16816103551354031106:True:=⟨⟩
theorem tw9546219255201745015:True:=⟨⟩
theorem tw11021795077201276463:True:=⟨⟩
theorem tw15461485775927508619:True:=⟨⟩
theorem tw5900984163615512225:True:=⟨⟩
theorem tw1718300766980159715:True:=⟨⟩
theorem tw17200184568348530304:True:=⟨⟩
theorem tw1819642612285330672:True:=⟨⟩
theorem tw12055485704784275180:True:=⟨⟩
theorem tw13686537513803245164:True:=⟨⟩
theorem tw3338239882060227876:True:=⟨⟩
theorem tw4284415409115300359:True:=⟨⟩
theorem tw17939222987288589386:True:=⟨⟩
theorem tw12273652819795097863:True:=⟨⟩
theorem tw885576258357344108:True:=⟨⟩
theorem tw17996122169629732682:True:=⟨⟩
theorem tw11106418356241852520:True:=⟨⟩
theorem tw58555099731746724:True:=⟨⟩
theorem tw17430114138985450928:True:=⟨⟩
theorem tw17837491757399244080:True:=⟨⟩
theorem tw10333213103563907023:True:=⟨⟩
theorem tw10910967996490765168:True:=⟨⟩
theorem tw4582538309642751475:True:=⟨⟩
theorem tw10872051679640145786:True:=⟨⟩
theorem tw14798415205272146650:True:=⟨⟩
theorem tw282266573532330180:True:=⟨⟩
theorem tw14475177399596095563:True:=⟨⟩
theorem tw602845209243325106:True:=⟨⟩
end PySem.W.Fast
open PySem PySem.W PyProof.Rows
set_option maxRecDepth 100000 in
set_option maxHeartbeats 0 in
theorem PySem.Challenge.cw_figurewheel_k35_whole_equal_roads_holds : PySem.Challenge.rw_figurewheel_k35_whole_equal_roads.Holds := by
 w_on;o_law;k_head;(case hw=>w_witness2)
 k_fill
 refine' K35.walk (l:=PySem.Challenge.rw_figurewheel_k35_whole_equal_roads) rfl rfl (fun w h Y=>PySem.W.km_in_of Y) ?hYt ?hK ?F
 case hYt =>
  intro w h Y p b
  exact PySem.W.km_tabs_of Y p.1 (by revert p;decide)
 case hK =>
  intro w p b
  simp only[K35.ts0,List.mem_cons,List.not_mem_nil,or_false] at b
  rcases b with rfl|rfl|rfl|rfl|rfl|rfl|rfl
  ·refine' ⟨by kernel_rfl,K35.Cr ?a ?l ?m⟩
   (case a=>k_is)
   (case l=>k_is)
   (case m=>kernel_rfl)
  ·refine' ⟨by kernel_rfl,K35.Cs ?a ?l ?m⟩
   (case a=>k_is)
   (case l=>k_is)
   (case m=>kernel_rfl)
  ·refine' ⟨by kernel_rfl,K35.Ct ?a ?l ?m⟩
   (case a=>k_is)
   (case l=>k_is)
   (case m=>kernel_rfl)
  ·refine' ⟨by kernel_rfl,K35.Cu ?a ?l ?m⟩
   (case a=>k_is)
   (case l=>k_is)
   (case m=>kernel_rfl)
  ·refine' ⟨by kernel_rfl,K35.Cv ?a ?l ?m⟩
   (case a=>k_is)
   (case l=>k_is)
   (case m=>kernel_rfl)
  ·refine' ⟨by kernel_rfl,K35.Cw ?a ?l ?m⟩
   (case a=>k_is)
   (case l=>k_is)
   (case m=>kernel_rfl)
  ·refine' ⟨by kernel_rfl,K35.Cy ?a ?l ?m⟩
   (case a=>k_is)
   (case l=>k_is)
   (case m=>kernel_rfl)
 case F =>
  intro w mg g h f G e
  refine' K35.Cq f G e ?g_LEAST_BASE ?g_GREATEST_BASE ?g_MOST_ROOMS ?g_MOST_LETTERS ?g_MOST_NAMES ?g_MOST_FIGURES ?z_enumerate ?z_len ?z_list ?z_max ?z_min ?z_range ?z_set ?z_sorted ?z_sum ?z_tuple ?z_zip ?D0 ?a1 ?l1 ?d1 ?c1 ?k1 ?a2 ?l2 ?d2 ?c2 ?k2 ?D3 ?a4 ?l4 ?d4 ?c4 ?k4 ?a5 ?l5 ?d5 ?c5 ?k5 ?D6 ?D7 ?a8 ?l8 ?c8 ?k8 ?m8 ?D9 ?D10 ?D11 ?D12 ?D13 ?D14 ?D15 ?D16 ?D17 ?D18 ?a19 ?l19 ?c19 ?k19 ?m19 ?D20 ?a21 ?l21 ?c21 ?k21 ?m21 ?a22 ?l22 ?c22 ?k22 ?m22 ?D23 ?D24 ?D25 ?D26 ?D27 ?a28 ?l28 ?c28 ?k28 ?m28 ?D29 ?a30 ?l30 ?c30 ?k30 ?m30 ?a31 ?l31 ?c31 ?k31 ?m31 ?D32 ?D33 ?D34 ?D35 ?D36 ?D37 ?D38 ?aL ?lL ?cL ?kL
  (case D0|D3|D6|D7|D9|D10|D11|D12|D13|D14|D15|D16|D17|D18|D20|D23|D24|D25|D26|D27|D29|D32|D33|D34|D35|D36|D37|D38=>(refine' L2.GQ ?a ?l ?c ?k;(case a=>k_is);(case l=>k_is);(case c=>k_is);(case k=>k_is)))
  (case g_LEAST_BASE|g_GREATEST_BASE|g_MOST_ROOMS|g_MOST_LETTERS|g_MOST_NAMES|g_MOST_FIGURES|z_enumerate|z_len|z_list|z_max|z_min|z_range|z_set|z_sorted|z_sum|z_tuple|z_zip|a1|l1|d1|c1|k1|a2|l2|d2|c2|k2|a4|l4|d4|c4|k4|a5|l5|d5|c5|k5|a8|l8|c8|k8 =>k_is)
  (case m8=>kernel_rfl)
  (case a19|l19|c19|k19 =>k_is)
  (case m19=>kernel_rfl)
  (case a21|l21|c21|k21 =>k_is)
  (case m21=>kernel_rfl)
  (case a22|l22|c22|k22 =>k_is)
  (case m22=>kernel_rfl)
  (case a28|l28|c28|k28 =>k_is)
  (case m28=>kernel_rfl)
  (case a30|l30|c30|k30 =>k_is)
  (case m30=>kernel_rfl)
  (case a31|l31|c31|k31 =>k_is)
  (case m31=>kernel_rfl)
  (case aL|lL|cL|kL =>k_is)
end
