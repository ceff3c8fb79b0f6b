import PyProof.Rows.All
import PyProof.TupleKey
import PyProof.P3Eq
import PyProof.Rows.TupIn
import PyProof.DictKinds
import Wide.All
import OpenK.AllK
import Wide.FinOn
import PyProof.EqAt
import PyProof.EqKinds
import PyProof.TupleCall
import KE.BitLaws
import Open.SpecLaws
import KE.OsHead
import KE.OsGo
import KE.KDictList
import KE.KSortTupG
import PyProof.Rows.SortLt
import PyProof.Rows.SortRuns
import PyProof.Rows.SortMergeAt
import PyProof.Wp
import VbwsafSpec
import PyVbwsaf
import PySem.Challenge.RW_lateinputs_s01_answers
set_option linter.all false
noncomputable section
set_option Elab.async false
set_option maxRecDepth 100000
section
namespace Nest
open PySem PyProof.Rows
abbrev NK:=List Int×List Int
noncomputable def encI (l:List Int):List PyData:=l.map PyData.int
def enc (k:NK):PyData:=.tuple (encI k.1++[.tuple (encI k.2)])
def TupV (h:Heap) (a:Addr) (vs:List Value):Prop:=∃ o items n,h.get? a=some o∧o.cls=.type "tuple" ∧ o.data=.seq items n∧items.toList=vs
theorem TupV.typeIs {s:Shared} {a:Addr} {vs:List Value} (x:TupV s.heap a vs):s.TypeIs (.ref a) "tuple" := by
 obtain ⟨o,_,_,ho,hc,_⟩:=x
 exact ⟨o,ho,hc⟩
theorem TupV.inj {h:Heap} {a:Addr} {vs ws:List Value} (x:TupV h a vs) (y:TupV h a ws):vs=ws:=by
 obtain ⟨o,items,n,ho,_,hd,hi⟩:=x
 obtain ⟨o',items',n',ho',_,hd',hi'⟩:=y
 rw[ho] at ho'
 have e:=Option.some.inj ho'
 subst e
 rw[hd] at hd'
 injection hd' with e1 _
 rw[← hi,← hi',e1]
theorem TupV.keeps {h h':Heap} {a d:Addr} {vs:List Value} {o:Obj} {es ep} (x:TupV h a vs) (ho:h.get? d=some o) (hd:o.data=.dict es ep) (hs:Heap.SameBut d h h'):TupV h' a vs:=by
 obtain ⟨o',items,n,ho',hc,hd',hi⟩:=x
 have hne:a≠d:=by
  intro e
  rw[e,ho] at ho'
  have e2:=Option.some.inj ho'
  rw[e2,hd'] at hd
  cases hd
 exact ⟨o',items,n,(hs.2 a hne).trans ho',hc,hd',hi⟩
def At (h:Heap) (k:NK) (a:Addr):Prop:=∃ vs d ws,TupV h a (vs++[.ref d])∧IntsAre vs k.1∧TupV h d ws∧IntsAre ws k.2
theorem Zc4 {vs:List Value} {as bs:List Int} (x:IntsAre vs as) (y:IntsAre vs bs):as=bs:=by
 induction x generalizing bs with
 | nil=>cases y;rfl
 | cons n t _ ih=>
  cases y with
  | cons _ _ y'=>rw[ih y']
theorem At.inj {h:Heap} {a:Addr} {x y:NK} (hx:At h x a) (hy:At h y a):x=y:=by
 obtain ⟨vs,d,ws,t1,i1,t2,i2⟩:=hx
 obtain ⟨vs',d',ws',t1',i1',t2',i2'⟩:=hy
 have e:=t1.inj t1'
 have e1:vs=vs':=by
  have:=congrArg List.dropLast e
  simpa using this
 have e2:d=d':=by
  have:=congrArg List.getLast? e
  simpa using this
 subst e1 e2
 have e3:=t2.inj t2'
 subst e3
 exact Prod.ext (Zc4 i1 i1') (Zc4 i2 i2')
theorem readsInts {h:Heap} {vs:List Value} {as:List Int} (x:IntsAre vs as):ReadsAll h vs (encI as) []:=by
 induction x with
 | nil=>exact ReadsAll.nil
 | cons n t _ ih=>exact ReadsAll.cons (Reads.int n t) ih
theorem readsApp {h:Heap} {vs ws:List Value} {ds es:List PyData} (x:ReadsAll h vs ds []) (y:ReadsAll h ws es []):ReadsAll h (vs++ws) (ds++es) []:=by
 induction vs generalizing ds with
 | nil=>cases x;exact y
 | cons v vs ih=>
  generalize ha:([]:List Addr)=as at x
  cases x with
  | cons h1 h2=>
   rename_i as bs
   have e:as=[]∧bs=[]:=by simpa using ha.symm
   obtain ⟨rfl,rfl⟩:=e
   exact ReadsAll.cons h1 (ih h2)
theorem At.reads {h:Heap} {k:NK} {a:Addr} (x:At h k a):Reads h (.ref a) (enc k) []:=by
 obtain ⟨vs,d,ws,⟨o,items,n,ho,hc,hd,hi⟩,i1,⟨o2,items2,n2,ho2,hc2,hd2,hi2⟩,i2⟩:=x
 have r2:Reads h (.ref d) (.tuple (encI k.2)) []:=Reads.tuple ho2 hc2 hd2 (by rw[hi2];exact readsInts i2)
 exact Reads.tuple ho hc hd (by rw[hi];exact readsApp (readsInts i1) (ReadsAll.cons r2 ReadsAll.nil))
theorem eqvInts:∀ as bs:List Int,PyData.eqvAll (encI as) (encI bs)=decide (as=bs)
 | [],[]=>by simp[encI,PyData.eqvAll]
 | [],_::_=>by simp[encI,PyData.eqvAll]
 | _::_,[]=>by simp[encI,PyData.eqvAll]
 | a::as,b::bs=>by
  show (PyData.eqv (.int a) (.int b)&&PyData.eqvAll (encI as) (encI bs))=_
  rw[eqvInts as bs]
  show ((a==b)&&_)=_
  rw[Bool.eq_iff_iff]
  simp
theorem eqvRows:∀ (as bs:List Int) (d e:List Int),PyData.eqvAll (encI as++[.tuple (encI d)]) (encI bs++[.tuple (encI e)])=decide (as=bs∧d=e)
 | [],[],d,e=>by
  show (PyData.eqvAll (encI d) (encI e)&&PyData.eqvAll [] [])=_
  rw[eqvInts]
  simp[PyData.eqvAll]
 | [],b::bs,d,e=>by
  show (PyData.eqv (.tuple (encI d)) (.int b)&&_)=_
  simp[PyData.eqv]
 | a::as,[],d,e=>by
  show (PyData.eqv (.int a) (.tuple (encI e))&&_)=_
  simp[PyData.eqv]
 | a::as,b::bs,d,e=>by
  show (PyData.eqv (.int a) (.int b)&&PyData.eqvAll (encI as++_) (encI bs++_))=_
  rw[eqvRows as bs d e]
  show ((a==b)&&_)=_
  rw[Bool.eq_iff_iff]
  simp[and_assoc]
theorem eqvKeys (x y:NK):PyData.eqv (enc x) (enc y)=decide (x=y):=by
 show PyData.eqvAll _ _=_
 rw[eqvRows,Bool.eq_iff_iff]
 simp[Prod.ext_iff]
theorem layInts:∀ as:List Int,PyData.canLayAll0 (encI as)=true
 | []=>rfl
 | a::as=>by
  show (PyData.canLay0 (.int a)&&PyData.canLayAll0 (encI as))=true
  rw[layInts as]
  rfl
theorem layRow:∀ (as:List Int) (d:List Int),PyData.canLayAll0 (encI as++[.tuple (encI d)])=true
 | [],d=>by
  show (PyData.canLayAll0 (encI d)&&true)=true
  rw[layInts]
  rfl
 | a::as,d=>by
  show (PyData.canLay0 (.int a)&&PyData.canLayAll0 (encI as++_))=true
  rw[layRow as d]
  rfl
theorem lay (k:NK):(enc k).canLay0=true:=layRow k.1 k.2
end Nest
end
section
namespace Nest
open PySem PyProof.Rows
section
variable {prog:Program} {w:World} {A:Around} {E:Value→Shared→Prop} {s:Shared}
theorem IntsAre.items {vs:List Value} {as:List Int} (x:IntsAre vs as):ItemsAre (PySem.intKind prog w) as vs:=by
 induction x with
 | nil=>exact .nil
 | cons n t _ ih=>exact .cons (by show Value.isInt n (Value.int n t)=true;simp[Value.isInt]) ih
theorem At.inner {h:Heap} {k:NK} {a:Addr} (x:At h k a):∃ o items n vs d,h.get? a=some o∧o.cls=.type "tuple" ∧ o.data=.seq items n∧items.toList=vs++[.ref d]∧ItemsAre (PySem.intKind prog w) k.1 vs∧IsTupleKey (PySem.intKind prog w) h k.2 d:=by
 obtain ⟨vs,d,ws,⟨o,items,n,ho,hc,hd,hi⟩,i1,⟨o2,items2,n2,ho2,hc2,hd2,hi2⟩,i2⟩:=x
 exact ⟨o,items,n,vs,d,ho,hc,hd,hi,IntsAre.items i1,o2,items2,n2,ho2,hc2,hd2,by rw[hi2];exact IntsAre.items i2⟩
theorem At.typeIs {k:NK} {a:Addr} (x:At s.heap k a):s.TypeIs (.ref a) "tuple" := by
 obtain ⟨vs,d,ws,t1,_⟩:=x
 exact t1.typeIs
noncomputable def nHash (prog:Program) (w:World) (k:NK):Int:=reduceHash (Builtin.Tuple.tupleHashOf (k.1.map hashInt++[tupleKeyHash (PySem.intKind prog w) k.2]))
noncomputable def nDraws (k:NK):Nat:=k.1.length+(k.2.length+1)+1
theorem Zaj {k:NK} {a:Addr} {Q:Int→Shared→Prop} (hu:A.units+64<cLine) (hk:At s.heap k a) (h:Q (nHash prog w k) { s with toks:=s.toks+nDraws k }) :
  wpAny (model prog w) A (pyHash (.ref a)) Q E s:=by
 have hT:=hk.typeIs
 obtain ⟨o,items,n,vs,d,ho,_,hd,hi,i1,i2⟩:=At.inner (prog:=prog) (w:=w) hk
 unfold pyHash
 first | unfold pyHashByItsType | skip
 first | refine wpAny_bind (wpAny_cRoomFor_or (.inr (by omega)) ?_) | skip
 refine wpAny_bind (wpAny_specialOf hT F.slot_tuple_hash.lookup ?_)
 show wpAny _ _ (if (some (Value.builtin "tuple.__hash__")==some Value.none)=true then _ else _) Q E s
 rw[if_neg (by rw[beq_builtin_none];exact Bool.false_ne_true)]
 refine wpAny_bind (wpAny_specialOf hT F.slot_tuple_hash.lookup ?_)
 show wpAny _ _ (callSpecialIfBoundUnlessNone? (.ref a) "__hash__" _ >>= _) Q E s
 refine wpAny_bind (wpAny_callSpecialIfBoundUnlessNone?_slot hT F.slot_tuple_hash (wpAny_call_entry F.slot_tuple_hash hT F.entry_tuple_hash ?_ (F.args_tuple_hash_1 _)))
 show wpAny _ _ (Builtin.Tuple.tupleItemsOf (.ref a) >>= _) _ _ s
 refine wpAny_bind (wpAny_tupleItemsOf ho hd ?_)
 refine wpAny_bind ?_
 rw[← Array.forIn_toList,hi]
 refine wpAny_forIn_list _
  (fun rest (b:Array Int) s'=>(∃ done left us,k.1=done++left∧ItemsAre (PySem.intKind prog w) left us∧rest=us++[Value.ref d]∧b.toList=done.map hashInt∧s'={ s with toks:=s.toks+done.length })
   ∨ (rest=[]∧b.toList=k.1.map hashInt++[tupleKeyHash (PySem.intKind prog w) k.2]∧s'={ s with toks:=s.toks+(k.1.length+(k.2.length+1)) }))
  _ ?_ ?_ _ _ (.inl ⟨[],k.1,vs,rfl,i1,rfl,rfl,rfl⟩)
 ·rintro x rest b s' (⟨done,left,us,e1,hl,er,hb,rfl⟩ | ⟨er,_⟩)
  ·cases hl with
   | nil=>
    rw[List.nil_append] at er
    injection er with er1 er2
    subst er1 er2
    rw[List.append_nil] at e1
    refine wpAny_bind (wpAny_pyHash_tuple (knd:=PySem.intKind prog w) (ks:=k.2) ?_ i2 ?_)
    ·show A.units+1<cLine
     omega
    ·first
      | exact wpAny_pure (.inr ⟨rfl,by simp[hb,e1],by simp[Nat.add_assoc,e1]⟩)
      | exact wpAny_bind (wpAny_pure (wpAny_pure (.inr ⟨rfl,by simp[hb,e1],by simp[Nat.add_assoc,e1]⟩)))
   | @cons k' _ ks' us' h1 hl'=>
    rw[List.cons_append] at er
    injection er with er1 er2
    subst er1 er2
    refine wpAny_bind ((PySem.intKind prog w).pyHash h1 ?_)
    first
     | exact wpAny_pure (.inl ⟨done++[k'],ks',us',by simp[e1],hl',rfl,by simp[hb];rfl,by simp[Nat.add_assoc]⟩)
     | exact wpAny_bind (wpAny_pure (wpAny_pure (.inl ⟨done++[k'],ks',us',by simp[e1],hl',rfl,by simp[hb];rfl,by simp[Nat.add_assoc]⟩)))
  ·cases er
 ·rintro b s' (⟨done,left,us,e1,hl,er,hb,rfl⟩ | ⟨er,hb,rfl⟩)
  ·exact absurd er.symm (by simp)
  ·show wpAny _ _ (retInt (Builtin.Tuple.tupleHashOf b.toList)) _ _ _
   rw[hb]
   refine wpAny_ret_mkInt ?_
   unfold nHash reduceHash at h
   unfold nDraws at h
   show wpAny _ _ (if (decide (-(2:Int) ^ 63≤Builtin.Tuple.tupleHashOf (k.1.map hashInt++[tupleKeyHash (PySem.intKind prog w) k.2]))&&decide (Builtin.Tuple.tupleHashOf (k.1.map hashInt++[tupleKeyHash (PySem.intKind prog w) k.2])<2 ^ 63))=true then _ else _) Q E _
   by_cases hr:(decide (-(2:Int) ^ 63≤Builtin.Tuple.tupleHashOf (k.1.map hashInt++[tupleKeyHash (PySem.intKind prog w) k.2]))&&decide (Builtin.Tuple.tupleHashOf (k.1.map hashInt++[tupleKeyHash (PySem.intKind prog w) k.2])<2 ^ 63))=true
   ·rw[if_pos hr]
    rw[if_pos hr] at h
    exact wpAny_pure (by simpa [Nat.add_assoc] using h)
   ·rw[if_neg hr]
    rw[if_neg hr] at h
    exact wpAny_bind (wpAny_rule (wpAny_pure (by simpa [Nat.add_assoc] using h)))
theorem Z2d:∀ as:List Int,PyData.depthAll (encI as)≤1
 | []=>by simp[encI,PyData.depthAll]
 | a::r=>by
  have:=Z2d r
  show max (PyData.depth (.int a)) (PyData.depthAll (encI r))≤1
  have e:PyData.depth (.int a)≤1:=by simp[PyData.depth]
  omega
theorem Z3g:∀ (as d:List Int),PyData.depthAll (encI as++[.tuple (encI d)])≤2
 | [],d=>by
  have:=Z2d d
  show max (PyData.depth (.tuple (encI d))) (PyData.depthAll [])≤2
  have e:PyData.depth (.tuple (encI d))=PyData.depthAll (encI d)+1:=by simp[PyData.depth]
  have e2:PyData.depthAll []≤1:=by simp[PyData.depthAll]
  omega
 | a::r,d=>by
  have:=Z3g r d
  show max (PyData.depth (.int a)) (PyData.depthAll (encI r++[.tuple (encI d)]))≤2
  have e:PyData.depth (.int a)≤1:=by simp[PyData.depth]
  omega
theorem Zfx (k:NK):(enc k).depth≤64:=by
 have:=Z3g k.1 k.2
 have e:(enc k).depth=PyData.depthAll (encI k.1++[.tuple (encI k.2)])+1:=by simp[enc,PyData.depth]
 omega
theorem Z5e {x y:NK} {a b:Addr} {Q:Bool→Shared→Prop} (hu:A.units+64<cLine) (hx:At s.heap x a) (hy:At s.heap y b) (h:Q (decide (x=y)) s):wpAny (model prog w) A (eqBool (.ref a) (.ref b)) Q E s:=by
 refine SeqAt.eqBoolOverData prog w A E s _ _ (enc x) (enc y) _ _ Q hx.reads hy.reads (lay x) (lay y) ?_ (by rw[eqvKeys];exact h)
 have:=Zfx x
 have:=Nat.min_le_left (enc x).depth (enc y).depth
 omega
theorem Zd4 {n:Nat} {ks:List Int} {a:Addr} {Q:Bool→Shared→Prop} (hk:IsTupleKey (PySem.intKind prog w) s.heap ks a) (h:Q true s):wpAny (model prog w) A (eqIsQuiet (n+1) (.ref a)) Q E s:=by
 have hT:=hk.typeIs
 obtain ⟨o,items,n',ho,_,hd,hi⟩:=hk
 unfold eqIsQuiet
 refine wpAny_bind (wpAny_specialOf hT F.slot_tuple_eq.lookup ?_)
 show wpAny _ _ (isInstance (.ref a) (.type "tuple") >>= _) _ _ s
 refine wpAny_bind (wpAny_isInstance hT isSubtype_tuple_tuple ?_)
 simp only[Bool.not_true,Bool.false_eq_true,if_false]
 refine wpAny_bind (wpAny_seqItems ho hd ?_)
 refine wpAny_bind ?_
 show wpAny _ _ (forIn items _ _) _ _ s
 rw[← Array.forIn_toList]
 refine wpAny_forIn_list _ (fun rest r s'=>r.1=none∧s'=s∧∀ v∈rest,carriedByValue v=true) _ ?_ ?_ _ _ ⟨rfl,rfl,hi.byValue⟩
 ·rintro v rest r s' ⟨hr,rfl,hall⟩
  rw[eqIsQuiet_byValue _ (hall v List.mem_cons_self)]
  refine wpAny_bind (wpAny_pure ?_)
  simp only[Bool.not_true,Bool.false_eq_true,if_false]
  exact wpAny_pure ⟨rfl,rfl,fun u hu'=>hall u (List.mem_cons_of_mem _ hu')⟩
 ·rintro ⟨r1,r2⟩ s' ⟨hr,rfl,_⟩
  simp only at hr
  subst hr
  exact wpAny_pure h
theorem Zd3 {k:NK} {a:Addr} {Q:Bool→Shared→Prop} (hk:At s.heap k a) (h:Q true s):wpAny (model prog w) A (eqIsQuiet 8 (.ref a)) Q E s:=by
 have hT:=hk.typeIs
 obtain ⟨o,items,n,vs,d,ho,_,hd,hi,i1,i2⟩:=At.inner (prog:=prog) (w:=w) hk
 unfold eqIsQuiet
 refine wpAny_bind (wpAny_specialOf hT F.slot_tuple_eq.lookup ?_)
 show wpAny _ _ (isInstance (.ref a) (.type "tuple") >>= _) _ _ s
 refine wpAny_bind (wpAny_isInstance hT isSubtype_tuple_tuple ?_)
 simp only[Bool.not_true,Bool.false_eq_true,if_false]
 refine wpAny_bind (wpAny_seqItems ho hd ?_)
 refine wpAny_bind ?_
 show wpAny _ _ (forIn items _ _) _ _ s
 rw[← Array.forIn_toList,hi]
 refine wpAny_forIn_list _ (fun rest r s'=>r.1=none∧s'=s∧∀ v∈rest,carriedByValue v=true∨v=.ref d) _ ?_ ?_ _ _ ⟨rfl,rfl,fun v hv=>?_⟩
 ·rintro v rest r s' ⟨hr,rfl,hall⟩
  have step:∀ {R:Bool→Shared→Prop},R true s'→wpAny (model prog w) A (eqIsQuiet 7 v) R E s':=by
   intro R hR
   rcases hall v List.mem_cons_self with q | rfl
   ·rw[eqIsQuiet_byValue _ q]
    exact wpAny_pure hR
   ·exact Zd4 i2 hR
  refine wpAny_bind (step ?_)
  simp only[Bool.not_true,Bool.false_eq_true,if_false]
  exact wpAny_pure ⟨rfl,rfl,fun u hu'=>hall u (List.mem_cons_of_mem _ hu')⟩
 ·rintro ⟨r1,r2⟩ s' ⟨hr,rfl,_⟩
  simp only at hr
  subst hr
  exact wpAny_pure h
 ·rcases List.mem_append.mp hv with q | q
  ·exact .inl (i1.byValue v q)
  ·exact .inr (by simpa using q)
theorem At.keeps {h h':Heap} {k:NK} {a d:Addr} {o:Obj} {es ep} (x:At h k a) (ho:h.get? d=some o) (hd:o.data=.dict es ep) (hs:Heap.SameBut d h h'):At h' k a:=by
 obtain ⟨vs,d',ws,t1,i1,t2,i2⟩:=x
 exact ⟨vs,d',ws,t1.keeps ho hd hs,i1,t2.keeps ho hd hs,i2⟩
end
def nestKind (prog:Program) (w:World):HeapKind prog w NK where
 is:=At
 hash:=nHash prog w
 draws:=nDraws
 room:=fun A=>A.units+64<cLine
 inj:=fun hx hy=>hx.inj hy
 keeps:=fun x ho hd hs=>x.keeps ho hd hs
 pyHash:=fun hu hk h=>Zaj hu hk h
 eqBool:=fun hu hx hy h=>Z5e hu hx hy h
 quiet:=fun hk h=>Zd3 hk h
end Nest
end
section
namespace L2
open PySem PySem.Spec PyProof.Rows
abbrev Key:=Sum Int Str
noncomputable def keyIs:Key→Value→Bool
 | .inl k,v=>Value.isInt k v
 | .inr x,v=>Value.isStrOf x v
noncomputable def keyH (w:World):Key→Int
 | .inl k=>hashInt k
 | .inr x=>hashStr w x
theorem Yn:∀ {k:Key} {v:Value},keyIs k v=true→(∃ i t,k=Sum.inl i∧v=Value.int i t)∨(∃ x t,k=Sum.inr x∧v=Value.str x t)
 | .inl i,v,h=>by
  obtain ⟨t,e⟩:=Value.isInt_shape (k:=i) (v:=v) h
  exact .inl ⟨i,t,rfl,e⟩
 | .inr x,v,h=>by
  obtain ⟨t,e⟩:=Value.isStrOf_shape (x:=x) (v:=v) h
  exact .inr ⟨x,t,rfl,e⟩
theorem Zfg (i:Int) (t:Tok):keyIs (.inl i) (.int i t)=true:=by simp[keyIs,Value.isInt]
theorem Zff (x:Str) (t:Tok):keyIs (.inr x) (.str x t)=true:=by simp[keyIs,Value.isStrOf]
theorem key_ll (a b:Int):decide ((Sum.inl a:Key)=Sum.inl b)=(a==b):=by
 by_cases e:a=b
 ·subst e;simp
 ·have h:¬ (Sum.inl a:Key)=Sum.inl b:=fun q=>e (Sum.inl.inj q)
  rw[decide_eq_false h]
  exact (beq_eq_false_iff_ne.mpr e).symm
theorem key_rr (a b:Str):decide ((Sum.inr a:Key)=Sum.inr b)=decide (a=b):=by
 by_cases e:a=b
 ·subst e;simp
 ·have h:¬ (Sum.inr a:Key)=Sum.inr b:=fun q=>e (Sum.inr.inj q)
  rw[decide_eq_false h,decide_eq_false e]
theorem key_lr (a:Int) (b:Str):decide ((Sum.inl a:Key)=Sum.inr b)=false:=decide_eq_false (fun q=>nomatch q)
theorem key_rl (a:Str) (b:Int):decide ((Sum.inr a:Key)=Sum.inl b)=false:=decide_eq_false (fun q=>nomatch q)
def Zs (prog:Program) (w:World):PySem.KeyKind prog w Key where
 is:=keyIs
 hash:=keyH w
 inj:=fun v a b ha hb=>by
  rcases Yn ha with ⟨i,t,rfl,rfl⟩ | ⟨x,t,rfl,rfl⟩
  ·rcases Yn hb with ⟨j,u,rfl,e⟩ | ⟨y,u,rfl,e⟩
   ·injection e with e1 _;rw[e1]
   ·exact nomatch e
  ·rcases Yn hb with ⟨j,u,rfl,e⟩ | ⟨y,u,rfl,e⟩
   ·exact nomatch e
   ·injection e with e1 _;rw[e1]
 byValue:=fun k v h=>by
  rcases Yn h with ⟨i,t,rfl,rfl⟩ | ⟨x,t,rfl,rfl⟩ <;> rfl
 pyHash:=fun hv h=>by
  rcases Yn hv with ⟨i,t,rfl,rfl⟩ | ⟨x,t,rfl,rfl⟩
  ·exact wpAny_pyHash_int h
  ·exact wpAny_pyHash_str h
 eqBool:=fun hu hv h=>by
  rcases Yn hu with ⟨i,t,rfl,rfl⟩ | ⟨x,t,rfl,rfl⟩
  ·rcases Yn hv with ⟨j,u,rfl,rfl⟩ | ⟨y,u,rfl,rfl⟩
   ·rw[key_ll] at h;exact wpAny_eqBool_int h
   ·rw[key_lr] at h;exact SeqAt.EqAt.int_str i t y u _ _ _ _ h
  ·rcases Yn hv with ⟨j,u,rfl,rfl⟩ | ⟨y,u,rfl,rfl⟩
   ·rw[key_rl] at h;exact SeqAt.EqAt.str_int x t j u _ _ _ _ h
   ·rw[key_rr] at h;exact wpAny_eqBool_str h
 «strs»:=fun k x t v h=>by
  rcases Yn h with ⟨i,u,rfl,e⟩ | ⟨y,u,rfl,e⟩
  ·exact nomatch e
  ·injection e with e1 _
   subst e1
   cases v <;> rfl
theorem Zay (prog:Program) (w:World) (i:Int) (t:Tok):(Zs prog w).is (.inl i) (.int i t)=true:=Zfg i t
theorem Zax (prog:Program) (w:World) (x:Str) (t:Tok):(Zs prog w).is (.inr x) (.str x t)=true:=Zff x t
end L2
namespace L2
open PySem PySem.Spec PyProof.Rows
inductive V where
 | non | bl (b:Bool) | int (i:Int) | str (x:Str) | byt (b:Array UInt8) | flt (b:UInt64) | ref (a:Addr) | ty (n:String)
 deriving DecidableEq
def RelV:V→Value→Prop
 | .non,u=>u=Value.none
 | .bl b,u=>u=Value.bool b
 | .int i,u=>∃ t,u=Value.int i t
 | .str x,u=>∃ t,u=Value.str x t
 | .byt b,u=>∃ t,u=Value.bytes b t
 | .flt b,u=>∃ t,u=Value.float b t
 | .ref a,u=>u=Value.ref a
 | .ty n,u=>u=Value.type n
abbrev Vals:List V→List Value→Prop:=Paired RelV
theorem Vals.length {xs:List V} {us:List Value} (r:Vals xs us):xs.length=us.length:=Paired.length r
theorem Vals.get:∀ {xs:List V} {us:List Value} {i:Nat} {x:V},Vals xs us→xs[i]?=some x→∃ u,us[i]?=some u∧RelV x u
 | _,_,_,_,.nil,e=>by simp at e
 | _,_,0,_,.cons r _,e=>by simp at e;subst e;exact ⟨_,rfl,r⟩
 | _,_,i+1,x,.cons _ t,e=>by
  obtain ⟨u,h1,h2⟩:=Vals.get (i:=i) (x:=x) t (by simpa using e)
  exact ⟨u,by simpa using h1,h2⟩
theorem Vals.set {x:V} {u:Value} (r:RelV x u):∀ {xs:List V} {us:List Value} (i:Nat),Vals xs us→Vals (xs.set i x) (us.set i u)
 | _,_,_,.nil=>.nil
 | _,_,0,.cons _ t=>.cons r t
 | _,_,i+1,.cons q t=>.cons q (Vals.set r i t)
theorem Vals.append:∀ {xs ys:List V} {us ws:List Value},Vals xs us→Vals ys ws→Vals (xs++ys) (us++ws)
 | _,_,_,_,.nil,s=>s
 | _,_,_,_,.cons r t,s=>.cons r (Vals.append t s)
theorem Vals.take:∀ {xs:List V} {us:List Value} (n:Nat),Vals xs us→Vals (xs.take n) (us.take n)
 | _,_,0,_=>.nil
 | _,_,_+1,.nil=>.nil
 | _,_,n+1,.cons r t=>.cons r (Vals.take n t)
theorem Vals.drop:∀ {xs:List V} {us:List Value} (n:Nat),Vals xs us→Vals (xs.drop n) (us.drop n)
 | _,_,0,r=>r
 | _,_,_+1,.nil=>.nil
 | _,_,n+1,.cons _ t=>Vals.drop n t
def RelO:Option V→Option Value→Prop
 | some v,some u=>RelV v u
 | none,none=>True
 | _,_=>False
def KV {κ:Type}:List (κ×V)→List (κ×Value)→Prop:=Paired fun (p:κ×V) (q:κ×Value)=>p.1=q.1∧RelV p.2 q.2
noncomputable def kV:Key→V
 | .inl i=>.int i
 | .inr x=>.str x
inductive HO where
 /-- a list -/
 | lst (xs:List V)
 /-- a tuple (never changes) -/
 | tup (xs:List V)
 /-- a dict whose keys are ints and texts;one whose keys are tuples of ints and texts (the empty one is both) -/
 | dK (kvs:List (Key×V)) | dT (kvs:List (List Key×V))
 /-- a dict whose keys are tuples of ints with a tuple of ints behind them -/
 | dN (kvs:List (Nest.NK×V))
 /-- a set of ints: its members,its size -/
 | set (S:Int→Bool) (n:Nat)
 /-- an instance of the class at C,its dict at dx,its attributes -/
 | ins (C dx:Addr) (fs:List (Str×V))
 /-- the dict of the instance at x -/
 | own (x:Addr)
 /-- the dict of an exception -/
 | xd (fs:List (Str×V))
 /-- a bound method,f of x -/
 | met (f x:Addr)
 /-- a range object lo,lo+1,.. below hi -/
 | rng (lo hi:Int)
 /-- a thing that is known to the object (the script;a dict while a loop walks it): read,never written while it is so -/
 | frz (o:Obj) (u:HO)
 /-- a code object's table -/
 | tbl (ps:Array Value)
 /-- any other thing,by what is true of its one object (a def of one's own: SetO a S n:=HO.ext fun h=>..) -/
 | ext (φ:Heap→Prop)
abbrev Hp:=Addr→Option HO
noncomputable def upd (H:Hp) (a:Addr) (o:HO):Hp:=fun b=>if b=a then some o else H b
theorem Z2 {H:Hp} {a:Addr} {o:HO}:upd H a o a=some o:=by unfold upd;rw[if_pos rfl]
theorem Z8 {H:Hp} {a b:Addr} {o:HO} (h:b≠a):upd H a o b=H b:=by unfold upd;rw[if_neg h]
theorem Z7h {H:Hp} {a:Addr} {o u:HO}:upd (upd H a o) a u=upd H a u:=by
 funext b;unfold upd;split <;> rfl
theorem ne_of {H:Hp} {a b:Addr} {o u:HO} (h:H a=some o) (h':H b=some u) (d:o≠u):a≠b:=by
 intro e;subst e;rw[h] at h';exact d (Option.some.inj h')
theorem Z6 {H:Hp} {a b:Addr} {o:HO} (h:H a=some o) (h':H b=none):a≠b:=by
 intro e;subst e;rw[h] at h';cases h'
def NAt (H:Hp) (k:Nest.NK) (a:Addr):Prop:=∃ d,H a=some (.tup (k.1.map V.int++[.ref d]))∧H d=some (.tup (k.2.map V.int))
section
variable (P:Program) (w:World)
def ObjOk (H:Hp) (h:Heap) (a:Addr):HO→Prop
 | .lst xs=>xs.length≤sizeLine∧∃ (its:List Value) (n:Nat),Vals xs its∧h.get? a=some { cls:=.type "list",data:=.seq its.toArray n }
 | .tup xs=>xs.length≤sizeLine∧∃ its:List Value,Vals xs its∧IsTup h a its.toArray
 | .dK kvs=>kvs.length≤sizeLine∧(a==sysModules)=false∧∃ vs,KV kvs vs∧h.DictOf (Zs P w) a vs
 | .dT kvs=>kvs.length≤sizeLine∧(a==sysModules)=false∧∃ xs:List (List Key×Addr×Value),
   Paired (fun (p:List Key×V) (q:List Key×Addr×Value)=>p.1=q.1∧H q.2.1=some (.tup (p.1.map kV))∧RelV p.2 q.2.2) kvs xs ∧
   ∃ o es ep,h.get? a=some o∧o.ExactDict∧o.data=.dict es ep∧es.toList=xs.map (entryOfKey (tupleKind (Zs P w)))∧(xs.map (·.1)).Nodup
 | .dN kvs=>kvs.length≤sizeLine∧(a==sysModules)=false∧∃ xs:List (Nest.NK×Addr×Value),
   Paired (fun (p:Nest.NK×V) (q:Nest.NK×Addr×Value)=>p.1=q.1∧NAt H p.1 q.2.1∧RelV p.2 q.2.2) kvs xs ∧
   ∃ o es ep,h.get? a=some o∧o.ExactDict∧o.data=.dict es ep∧es.toList=xs.map (entryOfKey (Nest.nestKind P w))∧(xs.map (·.1)).Nodup
 | .set S n=>h.SetOf (intKind P w) a S n
 | .ins C dx fs=>H dx=some (.own a)∧fs.length≤1000∧dx≠a∧h.get? a=some (PySem.W.instObj C dx) ∧
   ∃ mA,h.Ns1 dx mA∧(∀ f,RelO (fs.lookup f) (mA f))∧PySem.Within mA (fs.map (·.1))
 | .own _=>∃ o,h.get? a=some o
 | .xd fs=>∃ mA,h.Ns1 a mA∧∀ f,RelO (fs.lookup f) (mA f)
 | .rng lo hi=>∃ t u v,h.get? a=some { cls:=.type "range",data:=.fields #[.int lo t,.int hi u,.int 1 v] }
 | .frz o u=>h.get? a=some o∧ObjOk H h a u
 | .tbl ps=>h.get? a=some { cls:=.none,data:=.fields ps }
 | .met f x=>h.get? a=some (PySem.W.methodObj (.ref f) (.ref x))
 | .ext φ=>φ h∧(∃ o,h.get? a=some o)∧∀ h1 h2:Heap,φ h1→(∀ o,h1.get? a=some o→h2.get? a=some o)→φ h2
def HOk (H:Hp) (h:Heap):Prop:=∀ a o,H a=some o→ObjOk P w H h a o
end
section
variable {P:Program} {w:World} {H H':Hp} {h h':Heap} {a:Addr} {o:HO}
theorem ObjOk.lt (x:ObjOk P w H h a o):a<h.objs.size:=by
 cases o with
 | lst xs=>obtain ⟨_,_,_,_,e⟩:=x;exact Heap.lt_size e
 | tup xs=>obtain ⟨_,_,_,p⟩:=x;exact p.lt
 | dK kvs=>obtain ⟨_,_,_,_,o,_,_,e,_⟩:=x;exact Heap.lt_size e
 | dT kvs=>obtain ⟨_,_,_,_,o,_,_,e,_⟩:=x;exact Heap.lt_size e
 | dN kvs=>obtain ⟨_,_,_,_,o,_,_,e,_⟩:=x;exact Heap.lt_size e
 | set S n=>obtain ⟨o,_,_,_,e,_⟩:=x;exact Heap.lt_size e
 | ins C dx fs=>obtain ⟨_,_,_,e,_⟩:=x;exact Heap.lt_size e
 | own y=>obtain ⟨_,e⟩:=x;exact Heap.lt_size e
 | xd fs=>obtain ⟨_,⟨_,_,_,e,_⟩,_⟩:=x;exact Heap.lt_size e
 | rng lo hi=>obtain ⟨_,_,_,e⟩:=x;exact Heap.lt_size e
 | frz ob u=>obtain ⟨e,_⟩:=x;exact Heap.lt_size e
 | tbl ps=>exact Heap.lt_size (show h.get? a=some _ from x)
 | met f y=>exact Heap.lt_size (show h.get? a=some _ from x)
 | ext φ=>obtain ⟨_,⟨_,e⟩,_⟩:=x;exact Heap.lt_size e
theorem Paired.mapP {α β:Type} {F G:α→β→Prop}:∀ {l₁:List α} {l₂:List β},Paired F l₁ l₂→(∀ a b,F a b→G a b)→Paired G l₁ l₂
 | _,_,.nil,_=>.nil
 | _,_,.cons r t,f=>.cons (f _ _ r) (Paired.mapP t f)
theorem ObjOk.stay (x:ObjOk P w H h a o) (k:∀ b u,(b=a∨H b=some (.own a))→h.get? b=some u→h'.get? b=some u)
  (ho:∀ b,H b=some (.own a)→H' b=some (.own a)) (ht:∀ b xs,H b=some (.tup xs)→H' b=some (.tup xs)):ObjOk P w H' h' a o:=by
 induction o with
 | lst xs=>obtain ⟨z,its,n,r,e⟩:=x;exact ⟨z,its,n,r,k _ _ (.inl rfl) e⟩
 | tup xs=>obtain ⟨z,its,r,ob,e,c⟩:=x;exact ⟨z,its,r,ob,k _ _ (.inl rfl) e,c⟩
 | dK kvs=>obtain ⟨z,y,vs,r,ob,es,ep,e,c⟩:=x;exact ⟨z,y,vs,r,ob,es,ep,k _ _ (.inl rfl) e,c⟩
 | dT kvs=>
  obtain ⟨z,y,xs,r,ob,es,ep,e,c⟩:=x
  exact ⟨z,y,xs,Paired.mapP r fun p q z=>⟨z.1,ht _ _ z.2.1,z.2.2⟩,ob,es,ep,k _ _ (.inl rfl) e,c⟩
 | dN kvs=>
  obtain ⟨z,y,xs,r,ob,es,ep,e,c⟩:=x
  exact ⟨z,y,xs,Paired.mapP r fun p q z=>⟨z.1,let ⟨d,z1,z2⟩:=z.2.1;⟨d,ht _ _ z1,ht _ _ z2⟩,z.2.2⟩,ob,es,ep,k _ _ (.inl rfl) e,c⟩
 | set S n=>obtain ⟨ob,es,ep,t,e,c⟩:=x;exact ⟨ob,es,ep,t,k _ _ (.inl rfl) e,c⟩
 | ins C dx fs=>
  obtain ⟨d,z,ne,e,mA,⟨od,es,ep,e2,c⟩,r⟩:=x
  exact ⟨ho _ d,z,ne,k _ _ (.inl rfl) e,mA,⟨od,es,ep,k _ _ (.inr d) e2,c⟩,r⟩
 | own y=>obtain ⟨ob,e⟩:=x;exact ⟨ob,k _ _ (.inl rfl) e⟩
 | xd fs=>obtain ⟨mA,⟨od,es,ep,e,c⟩,r⟩:=x;exact ⟨mA,⟨od,es,ep,k _ _ (.inl rfl) e,c⟩,r⟩
 | rng lo hi=>obtain ⟨t,u,v,e⟩:=x;exact ⟨t,u,v,k _ _ (.inl rfl) e⟩
 | frz ob u ih=>obtain ⟨e,q⟩:=x;exact ⟨k _ _ (.inl rfl) e,ih q⟩
 | tbl ps=>
  have e:h.get? a=some { cls:=.none,data:=.fields ps }:=x
  show h'.get? a=some { cls:=.none,data:=.fields ps }
  exact k a _ (.inl rfl) e
 | met f y=>
  have e:h.get? a=some (PySem.W.methodObj (.ref f) (.ref y)):=x
  show h'.get? a=some (PySem.W.methodObj (.ref f) (.ref y))
  exact k a _ (.inl rfl) e
 | ext φ=>obtain ⟨p,⟨o,e⟩,st⟩:=x;exact ⟨st _ _ p fun o q=>k _ _ (.inl rfl) q,⟨o,k _ _ (.inl rfl) e⟩,st⟩
theorem HOk.lt (x:HOk P w H h) (e:H a=some o):a<h.objs.size:=(x a o e).lt
theorem HOk.fresh (x:HOk P w H h) (e:h.objs.size≤a):H a=none:=by
 cases q:H a with
 | none=>rfl
 | some u=>exact absurd (Nat.lt_of_lt_of_le (x.lt q) e) (Nat.lt_irrefl _)
theorem HOk.kept (x:HOk P w H h) (k:∀ b u,h.get? b=some u→h'.get? b=some u):HOk P w H h':=fun a o e=>
 (x a o e).stay (fun b u _ q=>k b u q) (fun _ q=>q) fun _ _ q=>q
theorem HOk.laid (x:HOk P w H h) (k:∀ b u,h.get? b=some u→h'.get? b=some u) (hp:h.objs.size≤a) (new:ObjOk P w (upd H a o) h' a o):HOk P w (upd H a o) h':=fun b u e=>by
 have hn:=x.fresh hp
 by_cases hb:b=a
 ·subst hb;rw[Z2] at e;cases e;exact new
 ·rw[Z8 hb] at e
  exact (x b u e).stay (fun c v _ q=>k c v q) (fun c q=>by rw[Z8 (Z6 q hn)];exact q) fun c xs q=>by rw[Z8 (Z6 q hn)];exact q
end
def Rd (H:Hp) (a:Addr) (u:HO):Prop:=H a=some u∨∃ o,H a=some (.frz o u)
theorem Rd.ok {P:Program} {w:World} {H:Hp} {h:Heap} {a:Addr} {u:HO} (r:Rd H a u) (x:HOk P w H h):ObjOk P w H h a u:=by
 rcases r with r | ⟨o,r⟩
 ·exact x a u r
 ·obtain ⟨_,q⟩:=x a _ r
  exact q
def Mut:Option HO→Prop
 | some (.lst _)=>True
 | some (.dK _)=>True
 | some (.dT _)=>True
 | some (.dN _)=>True
 | some (.set _ _)=>True
 | some (.ins _ _ _)=>True
 | some (.ext _)=>True
 | _=>False
section
variable {P:Program} {w:World} {H:Hp} {h h':Heap} {x e:Addr} {o':HO}
theorem HOk.write (ok:HOk P w H h) (mu:Mut (H x)) (he:e=x∨H e=some (.own x)) (k:∀ b u,b≠e→h.get? b=some u→h'.get? b=some u) (heo:∃ u,h'.get? e=some u)
  (new:ObjOk P w (upd H x o') h' x o'):HOk P w (upd H x o') h':=fun b u q=>by
 have nown:∀ c y,H c=some (.own y)→c≠x:=fun c y r z=>by subst z;rw[r] at mu;exact mu
 have ntup:∀ c xs,H c=some (.tup xs)→c≠x:=fun c xs r z=>by subst z;rw[r] at mu;exact mu
 by_cases hb:b=x
 ·subst hb;rw[Z2] at q;cases q;exact new
 ·rw[Z8 hb] at q
  by_cases hbe:b=e
  ·have q':H b=some (.own x):=by
    rcases he with z | z
    ·exact absurd (hbe.trans z) hb
    ·rw[hbe];exact z
   rw[q] at q';cases q'
   obtain ⟨v,hv⟩:=heo
   exact ⟨v,by rw[hbe];exact hv⟩
  ·refine (ok b u q).stay (fun c v hc r=>k c v ?_ r) (fun c r=>by rw[Z8 (nown c b r)];exact r) fun c xs r=>by rw[Z8 (ntup c xs r)];exact r
   rcases hc with rfl | hc
   ·exact hbe
   ·rintro rfl
    rcases he with z | z
    ·exact nown c b hc z
    ·rw[hc] at z;cases z;exact hb rfl
end
structure Un (fs ex:List Addr) (H H':Hp) (h h':Heap):Prop where
 keep:∀ b o,h.get? b=some o→H b=none→b ∉ fs→b ∉ ex→h'.get? b=some o
 slot:∀ b o,h.get? b=some o→H b=none→b∈fs→b ∉ ex→∃ sl,h'.get? b=some { o with slots:=sl }
 free:∀ b o,h.get? b=some o→H b=none→b ∉ ex→H' b=none
 there:∀ b o,h.get? b=some o→b ∉ ex→∃ o',h'.get? b=some o'
 tups:∀ b xs,H b=some (.tup xs)→H' b=some (.tup xs)
 frzs:∀ b o u,H b=some (.frz o u)→H' b=some (.frz o u)
 tbls:∀ b ps,H b=some (.tbl ps)→∃ more,H' b=some (.tbl (ps++more))
section
variable {fs fs' ex ex':List Addr} {H H1 H2:Hp} {h h1 h2 h':Heap} {a x e:Addr} {o:HO}
theorem Un.any (u:Un fs ex H H1 h h1) {b:Addr} {ob:Obj} (q:h.get? b=some ob) (n:H b=none) (hx:b ∉ ex):∃ sl,h1.get? b=some { ob with slots:=sl }:=by
 by_cases hb:b∈fs
 ·exact u.slot b ob q n hb hx
 ·exact ⟨ob.slots,u.keep b ob q n hb hx⟩
theorem Un.kept (k:∀ b u,h.get? b=some u→h'.get? b=some u):Un fs ex H H h h':=
 ⟨fun b ob q _ _ _=>k b ob q,fun b ob q _ _ _=>⟨ob.slots,k b ob q⟩,fun _ _ _ n _=>n,fun b ob q _=>⟨ob,k b ob q⟩,fun _ _ q=>q,fun _ _ _ q=>q,fun _ ps q=>⟨#[],by rw[q];simp⟩⟩
theorem Un.refl:Un fs ex H H h h:=Un.kept fun _ _ q=>q
theorem Un.laid (k:∀ b u,h.get? b=some u→h'.get? b=some u) (hp:h.objs.size≤a) (hn:H a=none):Un fs ex H (upd H a o) h h' where
 keep:=fun b u q _ _ _=>k b u q
 slot:=fun b u q _ _ _=>⟨u.slots,k b u q⟩
 free:=fun b u q n _=>by rw[Z8 (Nat.ne_of_lt (Nat.lt_of_lt_of_le (Heap.lt_size q) hp))];exact n
 there:=fun b u q _=>⟨u,k b u q⟩
 tups:=fun b xs q=>by rw[Z8 (Z6 q hn)];exact q
 frzs:=fun b u xs q=>by rw[Z8 (Z6 q hn)];exact q
 tbls:=fun b ps q=>⟨#[],by rw[Z8 (Z6 q hn),q];simp⟩
theorem Un.write (mu:Mut (H x)) (he:e=x∨H e=some (.own x)) (k:∀ b u,b≠e→h.get? b=some u→h'.get? b=some u) (heo:∃ u,h'.get? e=some u):Un fs ex H (upd H x o) h h':=by
 have hx:∀ b,H b=none→b≠x:=fun b n z=>by subst z;rw[n] at mu;exact mu
 have hb:∀ b,H b=none→b≠e:=fun b n z=>by
  subst z
  rcases he with r | r
  ·exact hx b n r
  ·rw[n] at r;cases r
 have hm:∀ b u,H b=some u→¬ Mut (some u)→b≠x:=fun b u q nm z=>by subst z;rw[q] at mu;exact nm mu
 refine ⟨fun b u q n _ _=>k b u (hb b n) q,fun b u q n _ _=>⟨u.slots,k b u (hb b n) q⟩,fun b u q n _=>by rw[Z8 (hx b n)];exact n,fun b u q _=>?_,
  fun b xs q=>by rw[Z8 (hm b _ q fun z=>z)];exact q,fun b u xs q=>by rw[Z8 (hm b _ q fun z=>z)];exact q,fun b ps q=>⟨#[],by rw[Z8 (hm b _ q fun z=>z),q];simp⟩⟩
 by_cases hbe:b=e
 ·subst hbe;exact heo
 ·exact ⟨u,k b u hbe q⟩
end
noncomputable def trk (h:Heap) (H:Hp):List Addr:=(List.range h.objs.size).filter fun a=>(H a).isSome
def hidT (h:Heap) (H:Hp):Heap:=PySem.W.hideAll h (trk h H)
theorem Zfp (h:Heap) (H:Hp):(hidT h H).objs.size=h.objs.size:=PySem.W.hideAll_size _ _
theorem Zh3 {h:Heap} {H:Hp} {b:Addr} {o:Obj} (e:h.get? b=some o) (n:H b=none):(hidT h H).get? b=some o:=
 PySem.W.hideAll_get _ e fun hm=>by
  have q:(H b).isSome=true:=(List.mem_filter.mp hm).2
  rw[n] at q;simp at q
theorem of_hidT {h:Heap} {H:Hp} {b:Addr} {o:Obj} (e:(hidT h H).get? b=some o):h.get? b=some o∧H b=none:=by
 have e':h.get? b=some o:=PySem.W.of_hideAll (trk h H) e
 refine ⟨e',?_⟩
 cases q:H b with
 | none=>rfl
 | some x=>
  have hm:b∈trk h H:=List.mem_filter.mpr ⟨List.mem_range.mpr (Heap.lt_size e'),by simp[q]⟩
  have z:(hidT h H).get? b=none:=PySem.W.hideAll_none (trk h H) hm
  rw[z] at e;cases e
end L2
namespace L2
open PySem PySem.Spec PyProof.Rows
structure Mod (K:PySem.W.Frag) (mg:Str→Option Value) (base:Heap):Prop where
 kin:K.In base
 glob:base.Ns mainGlobals mg
 blt:∃ mb,base.Ns builtinsNs mb∧∀ x:Str,x ≠ "__name__" → mb x=bootBuiltins x
 nolimit:base.NoLimit
structure Cx where
 prog:Program
 w:World
 K:PySem.W.Frag
 mg:Str→Option Value
 base:Heap
 A:Around
 N:List Str
 s_0:Shared
 H_0:Hp
 env:Env
 outer:List Env
 stack:List Env
 ex:List Addr
 fn:Str→Bool
 calm:Bool
 pn:List (Addr×Obj)
 xe:Value→Shared→Prop
noncomputable def frs (l:List Env):List Addr:=l.filterMap (·.frame)
abbrev Cx.fs (X:Cx):List Addr:=frs X.outer
def Vis (sc:Scope) (x:Str):Prop:=sc.names.lookup x=some .local∨sc.names.lookup x=some .cell∨sc.names.lookup x=some .free
def Loc (sc:Scope) (x:Str):Prop:=sc.names.lookup x=some .local∨sc.names.lookup x=some .cell
def Look (env:Env) (h:Heap) (m:Str→Option Value) (x:Str) (u:Value):Prop:=
 (env.kindOf x=some .local∧m x=some u)∨((env.kindOf x=some .cell∨env.kindOf x=some .free)∧∃ c,env.cells.lookup x=some c∧h.IsCell c (some u))
structure Cx.Ok (X:Cx):Prop where
 mod:Mod X.K X.mg X.base
 kind:X.env.scope.kind=.function
 glob:X.env.globals=mainGlobals
 blt:X.env.builtins=builtinsNs
 above:X.s_0.heap.objs.size≤X.env.locals
 inj:∀ x y c,X.env.cells.lookup x=some c→X.env.cells.lookup y=some c→x=y
 has:∀ x,(X.env.kindOf x=some .cell∨X.env.kindOf x=some .free)→∃ c,X.env.cells.lookup x=some c
 cab:∀ x c,X.fn x=true→X.env.cells.lookup x=some c→X.s_0.heap.objs.size≤c
 hd:X.calm=true→X.A.handled=none
 frames:X.A.frames=some X.stack
 stk:X.stack=X.outer∨(X.stack=X.env::X.outer∧X.env.frame=some X.env.locals)
 exf:∀ b∈X.ex,b≠X.env.locals∧∀ x c,X.env.cells.lookup x=some c→c≠b
 bs:∀ b o,X.base.get? b=some o→X.s_0.heap.get? b=some o∧X.H_0 b=none
 bsz:X.base.objs.size≤X.s_0.heap.objs.size
 noex:∀ b o,X.base.get? b=some o→b ∉ X.ex
 exfs:∀ b∈X.ex,b ∉ X.fs
 funs:X.s_0.heap.FunFrames X.base X.outer
 frf:∀ b∈X.fs,X.H_0 b=none
structure Inv (X:Cx) (pins:List (Addr×Obj)) (σ:List (Option V)) (H:Hp) (s:Shared):Prop where
 ok:X.Ok
 os:s.os=X.s_0.os
 bare:AllBare s.gens
 base:Un X.fs X.ex X.H_0 H X.s_0.heap s.heap
 loc:∃ m,s.heap.Ns X.env.locals m∧∀ (i:Nat) (x:Str) (v:V),X.N[i]?=some x→σ[i]?=some (some v)→Vis X.env.scope x→∃ u,RelV v u∧Look X.env s.heap m x u
 cell:∀ x c,X.env.cells.lookup x=some c→∃ v,s.heap.IsCell c v
 free:H X.env.locals=none
 freeC:∀ x c,X.env.cells.lookup x=some c→H c=none
 pin:∀ p∈X.pn++pins,s.heap.get? p.1=some p.2∧H p.1=none∧p.1≠X.env.locals∧p.1 ∉ X.fs∧∀ v,p.2.data≠.cell v
 hok:HOk X.prog X.w H s.heap
 len:σ.length=X.N.length
section
variable {X:Cx} {pins:List (Addr×Obj)} {σ:List (Option V)} {H H':Hp} {s:Shared} {h':Heap}
theorem Cx.Ok.nofr (ok:X.Ok) {b:Addr} {o:Obj} (e:X.base.get? b=some o):b ∉ X.fs:=fun hb=>by
 have:=(ok.funs.mem hb).1
 rw[e] at this;cases this
theorem Inv.bs (I:Inv X pins σ H s):∀ b o,X.base.get? b=some o→s.heap.get? b=some o∧H b=none:=fun b o e=>
 ⟨I.base.keep b o (I.ok.bs b o e).1 (I.ok.bs b o e).2 (I.ok.nofr e) (I.ok.noex b o e),I.base.free b o (I.ok.bs b o e).1 (I.ok.bs b o e).2 (I.ok.noex b o e)⟩
theorem Inv.bk (I:Inv X pins σ H s):∀ b o,X.base.get? b=some o→s.heap.get? b=some o:=fun b o e=>(I.bs b o e).1
theorem Inv.mod (I:Inv X pins σ H s):Mod X.K X.mg X.base:=I.ok.mod
theorem Inv.kIn (I:Inv X pins σ H s):X.K.In s.heap:=I.ok.mod.kin.keeps I.bk
theorem Inv.fr (I:Inv X pins σ H s):∃ m,Fr X.base X.env.locals s.heap m:=
 let ⟨m,hn,_⟩:=I.loc
 ⟨m,hn,I.bk,Nat.le_trans I.ok.bsz I.ok.above⟩
theorem Inv.lt (I:Inv X pins σ H s):X.env.locals<s.heap.objs.size:=let ⟨_,hn,_⟩:=I.loc;hn.lt
theorem Inv.sz (I:Inv X pins σ H s):X.s_0.heap.objs.size≤s.heap.objs.size:=Nat.le_trans I.ok.above (Nat.le_of_lt I.lt)
theorem Inv.nofs (I:Inv X pins σ H s) {a:Addr} (h:s.heap.objs.size≤a):a ∉ X.fs:=fun hb=>by
 obtain ⟨_,o,ho,_⟩:=I.ok.funs.mem hb
 exact absurd (Nat.lt_of_lt_of_le (Heap.lt_size ho) (Nat.le_trans I.sz h)) (Nat.lt_irrefl _)
theorem Inv.cne (I:Inv X pins σ H s):∀ x c,X.env.cells.lookup x=some c→c≠X.env.locals:=fun x c e z=>by
 obtain ⟨v,o,ho,hd⟩:=I.cell x c e
 obtain ⟨m,⟨o',es,ep,ho',hd',_⟩,_⟩:=I.loc
 rw[z,ho'] at ho;cases ho;rw[hd'] at hd;cases hd
theorem Inv.funs (I:Inv X pins σ H s):s.heap.FunFrames X.base X.outer:=by
 have all:∀ (l:List Env),(∀ b∈frs l,b∈X.fs)→X.s_0.heap.FunFrames X.base l→s.heap.FunFrames X.base l:=by
  intro l
  induction l with
  | nil=>intro _ _;trivial
  | cons env r ih=>
   intro hs hl
   obtain ⟨hk,⟨L,o,hf,hn,ho,hd⟩,hr⟩:=hl
   have hL:L∈X.fs:=hs L (by unfold frs;rw[List.filterMap_cons,hf];exact List.mem_cons_self)
   obtain ⟨sl,e⟩:=I.base.slot L o ho (I.ok.frf L hL) hL fun z=>I.ok.exfs L z hL
   exact ⟨hk,⟨L,_,hf,hn,e,hd⟩,ih (fun b hb=>hs b (by unfold frs;rw[List.filterMap_cons,hf];exact List.mem_cons_of_mem _ hb)) hr⟩
 exact all X.outer (fun _ hb=>hb) I.ok.funs
theorem Inv.stack (I:Inv X pins σ H s):s.heap.FunFrames X.base X.stack:=by
 rcases I.ok.stk with e | ⟨e,hf⟩
 ·rw[e];exact I.funs
 ·rw[e]
  obtain ⟨m,hn,_⟩:=I.loc
  refine .cons (by rw[I.ok.kind];decide) hf hn ?_ I.funs
  exact Heap.get?_none_of_le (Nat.le_trans I.ok.bsz I.ok.above)
theorem Inv.stkSub (I:Inv X pins σ H s):∀ b∈frs X.stack,b∈X.env.locals::X.fs:=fun b hb=>by
 rcases I.ok.stk with e | ⟨e,hf⟩
 ·rw[e] at hb;exact List.mem_cons_of_mem _ hb
 ·rw[e] at hb
  unfold frs at hb
  rw[List.filterMap_cons,hf] at hb
  exact hb
theorem Inv.stkFree (I:Inv X pins σ H s):∀ b∈frs X.stack,H b=none:=fun b hb=>by
 rcases List.mem_cons.mp (I.stkSub b hb) with e | hb
 ·rw[e];exact I.free
 ·obtain ⟨_,o,ho,_⟩:=I.ok.funs.mem hb
  exact I.base.free b o ho (I.ok.frf b hb) fun z=>I.ok.exfs b z hb
theorem Inv.step {g':Array GenState} {t':Nat} {d':Drawn} {ch:List Addr} (I:Inv X pins σ H s)
  (hch:∀ b∈ch,(b∈X.ex∨X.s_0.heap.objs.size≤b)∧b≠X.env.locals∧(∀ x c,X.env.cells.lookup x=some c→c≠b)∧∀ p∈X.pn++pins,p.1≠b)
  (keep:∀ b o,b≠X.env.locals→b ∉ X.fs→b ∉ ch→s.heap.get? b=some o→H b=none→h'.get? b=some o)
  (slot:∀ b o,b≠X.env.locals→b∈X.fs→b ∉ ch→s.heap.get? b=some o→H b=none→∃ sl,h'.get? b=some { o with slots:=sl }) (free:∀ b o,b ∉ ch→s.heap.get? b=some o→H b=none→H' b=none)
  (there:∀ b o,b ∉ ch→s.heap.get? b=some o→∃ o',h'.get? b=some o')
  (tups:∀ b xs,H b=some (.tup xs)→H' b=some (.tup xs)) (frzs:∀ b o u,H b=some (.frz o u)→H' b=some (.frz o u)) (tbls:∀ b ps,H b=some (.tbl ps)→∃ more,H' b=some (.tbl (ps++more)))
  (ns:∀ m,s.heap.Ns X.env.locals m→h'.Ns X.env.locals m) (hok:HOk X.prog X.w H' h') (hg:AllBare g') :
  Inv X pins σ H' { s with heap:=h',gens:=g',drawn:=d',toks:=t' }:=by
 have neL:∀ b o,X.s_0.heap.get? b=some o→b≠X.env.locals:=fun b o e=>Nat.ne_of_lt (Nat.lt_of_lt_of_le (Heap.lt_size e) I.ok.above)
 have neC:∀ b o,X.s_0.heap.get? b=some o→b ∉ X.ex→b ∉ ch:=fun b o e hx hb=>by
  rcases (hch b hb).1 with z | z
  ·exact hx z
  ·exact absurd (Nat.lt_of_lt_of_le (Heap.lt_size e) z) (Nat.lt_irrefl _)
 have cellK:∀ x c,X.env.cells.lookup x=some c→∀ v,s.heap.IsCell c v→h'.IsCell c v:=fun x c e v ⟨o,ho,hd⟩=>by
  have nch:c ∉ ch:=fun z=>(hch c z).2.2.1 x c e rfl
  by_cases hc:c∈X.fs
  ·obtain ⟨sl,q⟩:=slot c o (I.cne x c e) hc nch ho (I.freeC x c e)
   exact ⟨_,q,hd⟩
  ·exact ⟨o,keep c o (I.cne x c e) hc nch ho (I.freeC x c e),hd⟩
 refine ⟨I.ok,I.os,hg,⟨fun b o e n hb hx=>?_,fun b o e n hb hx=>?_,fun b o e n hx=>?_,fun b o e hx=>?_,fun b xs e=>tups b xs (I.base.tups b xs e),fun b o xs e=>frzs b o xs (I.base.frzs b o xs e),fun b ps e=>?_⟩,?_,fun x c e=>?_,?_,fun x c e=>?_,fun p hp=>?_,hok,I.len⟩
 ·exact keep b o (neL b o e) hb (neC b o e hx) (I.base.keep b o e n hb hx) (I.base.free b o e n hx)
 ·obtain ⟨sl,e1⟩:=I.base.slot b o e n hb hx
  obtain ⟨sl',e2⟩:=slot b _ (neL b o e) hb (neC b o e hx) e1 (I.base.free b o e n hx)
  exact ⟨sl',e2⟩
 ·obtain ⟨o',e1⟩:=I.base.there b o e hx
  exact free b o' (neC b o e hx) e1 (I.base.free b o e n hx)
 ·obtain ⟨o',e1⟩:=I.base.there b o e hx
  exact there b o' (neC b o e hx) e1
 ·obtain ⟨m1,e1⟩:=I.base.tbls b ps e
  obtain ⟨m2,e2⟩:=tbls b _ e1
  exact ⟨m1++m2,by rw[e2,Array.append_assoc]⟩
 ·obtain ⟨m,hn,hl⟩:=I.loc
  refine ⟨m,ns m hn,fun i x v e1 e2 e3=>?_⟩
  obtain ⟨u,r,l⟩:=hl i x v e1 e2 e3
  refine ⟨u,r,?_⟩
  rcases l with l | ⟨k,c,e,z⟩
  ·exact .inl l
  ·exact .inr ⟨k,c,e,cellK x c e _ z⟩
 ·obtain ⟨v,z⟩:=I.cell x c e
  exact ⟨v,cellK x c e v z⟩
 ·obtain ⟨m,⟨o,_,_,ho,_⟩,_⟩:=I.loc
  exact free _ o (fun z=>(hch _ z).2.1 rfl) ho I.free
 ·obtain ⟨v,o,ho,hd⟩:=I.cell x c e
  exact free c o (fun z=>(hch c z).2.2.1 x c e rfl) ho (I.freeC x c e)
 ·obtain ⟨e,n,ne,nf,d⟩:=I.pin p hp
  have nch:p.1 ∉ ch:=fun z=>(hch p.1 z).2.2.2 p hp rfl
  exact ⟨keep p.1 p.2 ne nf nch e n,free p.1 p.2 nch e n,ne,nf,d⟩
theorem Inv.un {t':Nat} (I:Inv X pins σ H s) (u:Un X.fs [] H H' s.heap h') (hok:HOk X.prog X.w H' h'):Inv X pins σ H' { s with heap:=h',toks:=t' }:=by
 obtain ⟨m,⟨o,es,ep,ho,r⟩,_⟩:=id I.loc
 obtain ⟨sl,hL⟩:=u.any ho I.free (by simp)
 exact I.step (g':=s.gens) (d':=s.drawn) (ch:=[]) (fun _ z=>nomatch z) (fun b o _ hb _ e n=>u.keep b o e n hb (by simp)) (fun b o _ hb _ e n=>u.slot b o e n hb (by simp)) (fun b o _ e n=>u.free b o e n (by simp)) (fun b o _ e=>u.there b o e (by simp)) u.tups u.frzs u.tbls (fun m' hm=>by
  obtain ⟨o',es',ep',ho',r'⟩:=hm
  rw[ho] at ho';cases ho'
  exact ⟨_,es',ep',hL,r'⟩) hok I.bare
theorem Inv.call {g':Array GenState} {t':Nat} {d':Drawn} {ch:List Addr} (I:Inv X pins σ H s) (u:Un (frs X.stack) ch H H' s.heap h') (hok:HOk X.prog X.w H' h') (hg:AllBare g')
  (hch:∀ b∈ch,(b∈X.ex∨X.s_0.heap.objs.size≤b)∧b≠X.env.locals∧(∀ x c,X.env.cells.lookup x=some c→c≠b)∧∀ p∈X.pn++pins,p.1≠b) :
  Inv X pins σ H' { s with heap:=h',gens:=g',drawn:=d',toks:=t' }:=by
 obtain ⟨m,⟨o,es,ep,ho,r⟩,_⟩:=id I.loc
 obtain ⟨sl,hL⟩:=u.any ho I.free fun z=>(hch _ z).2.1 rfl
 exact I.step (ch:=ch) hch (fun b o hL hb hc e n=>u.keep b o e n (fun z=>(List.mem_cons.mp (I.stkSub b z)).elim hL hb) hc) (fun b o _ _ hc e n=>u.any e n hc) (fun b o hc e n=>u.free b o e n hc) (fun b o hc e=>u.there b o e hc) u.tups u.frzs u.tbls (fun m' hm=>by
  obtain ⟨o',es',ep',ho',r'⟩:=hm
  rw[ho] at ho';cases ho'
  exact ⟨_,es',ep',hL,r'⟩) hok hg
theorem Inv.turned {t':Nat} {it:Addr} (I:Inv X pins σ H s) (k:∀ b o,b≠it→s.heap.get? b=some o→h'.get? b=some o) (hn:H it=none) (hL:it≠X.env.locals)
  (h1:it∈X.ex∨X.s_0.heap.objs.size≤it) (h2:∀ x c,X.env.cells.lookup x=some c→c≠it) (h3:∀ p∈X.pn++pins,p.1≠it):Inv X pins σ H { s with heap:=h',toks:=t' }:=by
 have nit:∀ b u,H b=some u→b≠it:=fun b u e z=>by rw[z,hn] at e;cases e
 refine I.step (g':=s.gens) (d':=s.drawn) (ch:=[it]) (fun b hb=>?_) (fun b o _ _ hc e _=>k b o (fun z=>hc (by simp[z])) e) (fun b o _ _ hc e _=>⟨o.slots,k b o (fun z=>hc (by simp[z])) e⟩) (fun _ _ _ _ n=>n)
  (fun b o hc e=>⟨o,k b o (fun z=>hc (by simp[z])) e⟩) (fun _ _ e=>e) (fun _ _ _ e=>e) (fun b ps e=>⟨#[],by rw[e];simp⟩) (fun m hm=>?_) (fun b u e=>?_) I.bare
 ·have e:b=it:=by simpa using hb
  subst e
  exact ⟨h1,hL,h2,h3⟩
 ·obtain ⟨o,es,ep,ho,r⟩:=hm
  exact ⟨o,es,ep,k _ o (Ne.symm hL) ho,r⟩
 ·refine (I.hok b u e).stay (fun c v hc q=>k c v ?_ q) (fun _ q=>q) fun _ _ q=>q
  rcases hc with z | z
  ·rw[z];exact nit b u e
  ·exact nit c _ z
theorem Inv.tok (I:Inv X pins σ H s) (t:Nat):Inv X pins σ H { s with toks:=t }:=I.un (h':=s.heap) (t':=t) Un.refl I.hok
theorem Inv.kept {t':Nat} (I:Inv X pins σ H s) (k:∀ b u,s.heap.get? b=some u→h'.get? b=some u):Inv X pins σ H { s with heap:=h',toks:=t' }:=I.un (Un.kept k) (I.hok.kept k)
theorem Inv.laid {a:Addr} {o:HO} {t':Nat} (I:Inv X pins σ H s) (k:∀ b u,s.heap.get? b=some u→h'.get? b=some u) (hp:s.heap.objs.size≤a) (new:ObjOk X.prog X.w (upd H a o) h' a o) :
  Inv X pins σ (upd H a o) { s with heap:=h',toks:=t' }:=I.un (Un.laid k hp (I.hok.fresh hp)) (I.hok.laid k hp new)
theorem Inv.write {x e:Addr} {o:HO} {t':Nat} (I:Inv X pins σ H s) (mu:Mut (H x)) (he:e=x∨H e=some (.own x)) (k:∀ b u,b≠e→s.heap.get? b=some u→h'.get? b=some u) (heo:∃ u,h'.get? e=some u)
  (new:ObjOk X.prog X.w (upd H x o) h' x o):Inv X pins σ (upd H x o) { s with heap:=h',toks:=t' }:=I.un (Un.write mu he k heo) (I.hok.write mu he k heo new)
theorem Inv.weak {σ':List (Option V)} (I:Inv X pins σ H s) (hl:σ'.length=σ.length) (w:∀ (i:Nat) v,σ'[i]?=some (some v)→σ[i]?=some (some v)):Inv X pins σ' H s:=
 ⟨I.ok,I.os,I.bare,I.base,let ⟨m,hn,hl'⟩:=I.loc;⟨m,hn,fun i x v e1 e2 e3=>hl' i x v e1 (w i v e2) e3⟩,I.cell,I.free,I.freeC,I.pin,I.hok,hl.trans I.len⟩
theorem Inv.pins_of {pins':List (Addr×Obj)} (I:Inv X pins σ H s) (h:∀ p∈pins',s.heap.get? p.1=some p.2∧H p.1=none∧p.1≠X.env.locals∧p.1 ∉ X.fs∧∀ v,p.2.data≠.cell v):Inv X pins' σ H s:=
 ⟨I.ok,I.os,I.bare,I.base,I.loc,I.cell,I.free,I.freeC,fun p hp=>(List.mem_append.mp hp).elim (fun z=>I.pin p (List.mem_append_left _ z)) (h p),I.hok,I.len⟩
theorem Z8i {N:List Str} (hN:N.Nodup) {i j:Nat} {x:Str} (a:N[i]?=some x) (b:N[j]?=some x):i=j:=by
 obtain ⟨h1,e1⟩:=List.getElem?_eq_some_iff.mp a
 obtain ⟨h2,e2⟩:=List.getElem?_eq_some_iff.mp b
 exact (List.getElem_inj hN).mp (e1.trans e2.symm)
theorem Ze8 {M:Model} {A:Around} {E:Value→Shared→Prop} {i:Nat} {x:Str} {v:V} {u:Value} {Q:Unit→Shared→Prop} (I:Inv X pins σ H s) (hN:X.N.Nodup) (hi:X.N[i]?=some x) (hx:Loc X.env.scope x) (r:RelV v u)
  (h:∀ s',Inv X pins (σ.set i (some v)) H s'→(∃ a,Heap.SameBut a s.heap s'.heap∧(a=X.env.locals∨X.env.cells.lookup x=some a))→Q () s') (hf:X.fn x=true∨X.env.scope.names.lookup x=some .local:=by first | exact .inl rfl | exact .inr rfl | assumption):wpAny M A (storeName X.env x u) Q E s:=by
 obtain ⟨m,hn,hl⟩:=id I.loc
 have hcls:(X.env.scope.kind==.class||(X.env.scope.kind==.module&&X.env.locals != X.env.globals))=false:=by rw[I.ok.kind];rfl
 have hiσ:i<σ.length:=by rw[I.len];exact (List.getElem?_eq_some_iff.mp hi).1
 have cne:=I.cne
 have tracked:∀ {a:Addr} {h':Heap},(∃ o,s.heap.get? a=some o∧H a=none)→Heap.SameBut a s.heap h'→HOk X.prog X.w H h':=fun {a h'} ha hs b ob e=>by
  obtain ⟨_,_,hfree⟩:=ha
  refine (I.hok b ob e).stay (fun c w' hc q=>(hs.2 c ?_).trans q) (fun _ q=>q) fun _ _ q=>q
  rintro rfl
  rcases hc with rfl | hc
  ·rw[hfree] at e;cases e
  ·rw[hfree] at hc;cases hc
 rcases hx with hk | hk
 ·refine wpAny_storeName_local hk hn (fun h' hn' hs=>?_) hcls
  obtain ⟨oL,_,_,hoL,_⟩:=id hn
  refine h _ ⟨I.ok,I.os,I.bare,⟨fun b o e n hb hx=>?_,fun b o e n hb hx=>?_,I.base.free,fun b o e hx=>?_,I.base.tups,I.base.frzs,I.base.tbls⟩,⟨_,hn',fun j y v' e1 e2 e3=>?_⟩,fun y c e=>?_,I.free,I.freeC,fun p hp=>?_,tracked ⟨oL,hoL,I.free⟩ hs,by simpa using I.len⟩ ⟨_,hs,.inl rfl⟩
  ·exact (hs.2 b (Nat.ne_of_lt (Nat.lt_of_lt_of_le (Heap.lt_size e) I.ok.above))).trans (I.base.keep b o e n hb hx)
  ·obtain ⟨sl,e1⟩:=I.base.slot b o e n hb hx
   exact ⟨sl,(hs.2 b (Nat.ne_of_lt (Nat.lt_of_lt_of_le (Heap.lt_size e) I.ok.above))).trans e1⟩
  ·obtain ⟨o',e1⟩:=I.base.there b o e hx
   exact ⟨o',(hs.2 b (Nat.ne_of_lt (Nat.lt_of_lt_of_le (Heap.lt_size e) I.ok.above))).trans e1⟩
  ·by_cases hj:j=i
   ·subst hj
    rw[hi] at e1;cases e1
    rw[List.getElem?_set_self hiσ] at e2
    cases e2
    exact ⟨u,r,.inl ⟨hk,by simp⟩⟩
   ·rw[List.getElem?_set_ne (Ne.symm hj)] at e2
    obtain ⟨u',r',q⟩:=hl j y v' e1 e2 e3
    refine ⟨u',r',?_⟩
    rcases q with ⟨k,e⟩ | ⟨k,c,e,z⟩
    ·refine .inl ⟨k,?_⟩
     have:y≠x:=fun e=>hj (Z8i hN e1 (e ▸ hi))
     simp[this,e]
    ·exact .inr ⟨k,c,e,z.sameBut hs (cne y c e)⟩
  ·obtain ⟨w',z⟩:=I.cell y c e
   exact ⟨w',z.sameBut hs (cne y c e)⟩
  ·obtain ⟨e,n,ne,nf,d⟩:=I.pin p hp
   exact ⟨(hs.2 p.1 ne).trans e,n,ne,nf,d⟩
 ·have hfn:X.fn x=true:=by
   rcases hf with z | z
   ·exact z
   ·rw[z] at hk;cases hk
  obtain ⟨c,hc⟩:=I.ok.has x (.inl hk)
  obtain ⟨w',z⟩:=I.cell x c hc
  refine wpAny_storeName_cell I.ok.kind hk hc z (fun h' hc' hs=>?_)
  obtain ⟨oc,hoc,hocd⟩:=id z
  refine h { s with heap:=h' } ⟨I.ok,I.os,I.bare,⟨fun b o e n hb hx=>?_,fun b o e n hb hx=>?_,I.base.free,fun b o e hx=>?_,I.base.tups,I.base.frzs,I.base.tbls⟩,⟨m,hn.sameBut hs (Ne.symm (cne x c hc)),fun j y v' e1 e2 e3=>?_⟩,fun y c' e=>?_,I.free,I.freeC,fun p hp=>?_,tracked ⟨oc,hoc,I.freeC x c hc⟩ hs,by simpa using I.len⟩ ⟨c,hs,.inr hc⟩
  ·exact (hs.2 b (Nat.ne_of_lt (Nat.lt_of_lt_of_le (Heap.lt_size e) (I.ok.cab x c hfn hc)))).trans (I.base.keep b o e n hb hx)
  ·obtain ⟨sl,e1⟩:=I.base.slot b o e n hb hx
   exact ⟨sl,(hs.2 b (Nat.ne_of_lt (Nat.lt_of_lt_of_le (Heap.lt_size e) (I.ok.cab x c hfn hc)))).trans e1⟩
  ·obtain ⟨o',e1⟩:=I.base.there b o e hx
   exact ⟨o',(hs.2 b (Nat.ne_of_lt (Nat.lt_of_lt_of_le (Heap.lt_size e) (I.ok.cab x c hfn hc)))).trans e1⟩
  ·by_cases hj:j=i
   ·subst hj
    rw[hi] at e1;cases e1
    rw[List.getElem?_set_self hiσ] at e2
    cases e2
    exact ⟨u,r,.inr ⟨.inl hk,c,hc,hc'⟩⟩
   ·rw[List.getElem?_set_ne (Ne.symm hj)] at e2
    obtain ⟨u',r',q⟩:=hl j y v' e1 e2 e3
    refine ⟨u',r',?_⟩
    rcases q with q | ⟨k,c',e,z'⟩
    ·exact .inl q
    ·refine .inr ⟨k,c',e,z'.sameBut hs ?_⟩
     rintro rfl
     exact hj (Z8i hN e1 (I.ok.inj _ _ _ e hc ▸ hi))
  ·by_cases hcc:c'=c
   ·subst hcc;exact ⟨_,hc'⟩
   ·obtain ⟨w2,z2⟩:=I.cell y c' e
    exact ⟨w2,z2.sameBut hs hcc⟩
  ·obtain ⟨e,n,ne,nf,d⟩:=I.pin p hp
   refine ⟨(hs.2 p.1 ?_).trans e,n,ne,nf,d⟩
   intro q
   rw[q,hoc] at e
   have q':oc=p.2:=Option.some.inj e
   exact d w' (by rw[← q'];exact hocd)
theorem Zbd {M:Model} {A:Around} {E:Value→Shared→Prop} {i:Nat} {x:Str} {v:V} {u:Value} {Q:Unit→Shared→Prop} (I:Inv X pins σ H s) (hN:X.N.Nodup) (hi:X.N[i]?=some x) (hx:Loc X.env.scope x) (r:RelV v u)
  (h:∀ s',Inv X pins (σ.set i (some v)) H s'→Q () s') (hf:X.fn x=true∨X.env.scope.names.lookup x=some .local:=by first | exact .inl rfl | exact .inr rfl | assumption):wpAny M A (storeName X.env x u) Q E s:=
 Ze8 I hN hi hx r (fun s' I' _=>h s' I') hf
theorem Inv.call' {s':Shared} {ch:List Addr} (I:Inv X pins σ H s) (ho:s'.os=s.os) (u:Un (frs X.stack) ch H H' s.heap s'.heap) (hok:HOk X.prog X.w H' s'.heap) (hg:AllBare s'.gens)
  (hch:∀ b∈ch,(b∈X.ex∨X.s_0.heap.objs.size≤b)∧b≠X.env.locals∧(∀ x c,X.env.cells.lookup x=some c→c≠b)∧∀ p∈X.pn++pins,p.1≠b):Inv X pins σ H' s':=by
 obtain ⟨h',g',d',t',o'⟩:=s'
 have e:o'=s.os:=ho
 subst e
 exact I.call (g':=g') (t':=t') (d':=d') u hok hg hch
end
abbrev XK:=Value→Option Addr→Hp→Prop
abbrev St:=List (Option V)
abbrev VK:=V→Hp→Prop
abbrev TE:=St→Hp→VK→Prop
abbrev TT:=St→Hp→(Bool→Hp→Prop)→Prop
abbrev TA:=St→Hp→(List V→Hp→Prop)→Prop
structure Ends where
 nx:St→Hp→Prop
 rt:VK
 bk:St→Hp→Prop:=fun _ _=>False
 ct:St→Hp→Prop:=fun _ _=>False
abbrev TS:=Ends→St→Hp→Prop
def EP (X:Cx) (pins:List (Addr×Obj)) (σ:St) (Q:VK) (u:Value) (s':Shared):Prop:=∃ v H',Inv X pins σ H' s'∧RelV v u∧Q v H'
def TP (X:Cx) (pins:List (Addr×Obj)) (σ:St) (Q:Bool→Hp→Prop) (b:Bool) (s':Shared):Prop:=∃ H',Inv X pins σ H' s'∧Q b H'
def AP (X:Cx) (pins:List (Addr×Obj)) (σ:St) (Q:List V→Hp→Prop) (us:List Value) (s':Shared):Prop:=∃ vs H',Inv X pins σ H' s'∧Vals vs us∧Q vs H'
def SP (X:Cx) (pins:List (Addr×Obj)) (D:Ends) (f:Flow) (s':Shared):Prop:=
 match f with
 | .next=>∃ σ' H',Inv X pins σ' H' s'∧D.nx σ' H'
 | .brk=>∃ σ' H',Inv X pins σ' H' s'∧D.bk σ' H'
 | .cont=>∃ σ' H',Inv X pins σ' H' s'∧D.ct σ' H'
 | .ret u=>∃ v σ' H',Inv X pins σ' H' s'∧RelV v u∧D.rt v H'
def PE (X:Cx) (e:Expr) (t:TE):Prop:=
 ∀ (pins:List (Addr×Obj)) (s:Shared) (σ:St) (H:Hp) (Q:VK),Inv X pins σ H s→t σ H Q→wpAny (model X.prog X.w) X.A (eval e X.env) (EP X pins σ Q) X.xe s
def PT (X:Cx) (e:Expr) (t:TT):Prop:=
 ∀ (pins:List (Addr×Obj)) (s:Shared) (σ:St) (H:Hp) (Q:Bool→Hp→Prop),Inv X pins σ H s→t σ H Q→wpAny (model X.prog X.w) X.A (isTrue e X.env (eval e X.env)) (TP X pins σ Q) X.xe s
def PW (X:Cx) (e:Expr) (t:TT):Prop:=
 ∀ (whole:Sem Value) (pins:List (Addr×Obj)) (s:Shared) (σ:St) (H:Hp) (Q:Bool→Hp→Prop),Inv X pins σ H s→t σ H Q→wpAny (model X.prog X.w) X.A (isTrue e X.env whole) (TP X pins σ Q) X.xe s
theorem PW.pt {X:Cx} {e:Expr} {t:TT} (h:PW X e t):PT X e t:=h _
def PA (X:Cx) (es:List Expr) (t:TA):Prop:=
 ∀ (pos:Pos) (pins:List (Addr×Obj)) (s:Shared) (σ:St) (H:Hp) (Q:List V→Hp→Prop),Inv X pins σ H s→t σ H Q→wpAny (model X.prog X.w) X.A (spliced (backTo pos (starEach es X.env))) (AP X pins σ Q) X.xe s
def PS (X:Cx) (st:Stmt) (t:TS):Prop:=
 ∀ (pins:List (Addr×Obj)) (s:Shared) (σ:St) (H:Hp) (D:Ends),Inv X pins σ H s→t D σ H→wpAny (model X.prog X.w) X.A (exec st X.env) (SP X pins D) X.xe s
def PSs (X:Cx) (st:List Stmt) (t:TS):Prop:=
 ∀ (pins:List (Addr×Obj)) (s:Shared) (σ:St) (H:Hp) (D:Ends),Inv X pins σ H s→t D σ H→wpAny (model X.prog X.w) X.A (execs st X.env) (SP X pins D) X.xe s
theorem thn {α:Type} {t:Sem α} {Q Q':α→Shared→Prop} {M:Model} {A:Around} {E:Value→Shared→Prop} {s:Shared} (h:wpAny M A t Q E s) (hQ:∀ a s,Q a s→Q' a s):wpAny M A t Q' E s:=wpAny_mono h hQ fun _ _ x=>x
end L2
namespace L2
open PySem PySem.Spec PyProof.Rows
section
variable {X:Cx}
theorem bin {a b:Expr} {ta tb:TE} (ha:PE X a ta) (hb:PE X b tb) {pins:List (Addr×Obj)} {s:Shared} {σ:St} {H:Hp} {R:V→V→Hp→Prop} (I:Inv X pins σ H s) (h:ta σ H fun x H1=>tb σ H1 fun y H2=>R x y H2)
  {α:Type} {Q:α→Shared→Prop} {f:Value→Value→Sem α}
  (hf:∀ v u s2 x y H2,Inv X pins σ H2 s2→RelV x v→RelV y u→R x y H2→wpAny (model X.prog X.w) X.A (f v u) Q X.xe s2) :
  wpAny (model X.prog X.w) X.A (eval a X.env) (fun v s₁=>wpAny (model X.prog X.w) X.A (eval b X.env) (fun u s₂=>wpAny (model X.prog X.w) X.A (f v u) Q X.xe s₂) X.xe s₁) X.xe s:=by
 refine thn (ha pins s σ H _ I h) fun v s1 ⟨x,H1,I1,r1,q1⟩=>?_
 refine thn (hb pins s1 σ H1 _ I1 q1) fun u s2 ⟨y,H2,I2,r2,q2⟩=>?_
 exact hf v u s2 x y H2 I2 r1 r2 q2
noncomputable def tVar (i:Nat):TE:=fun σ H Q=>∃ v,σ[i]?=some (some v)∧Q v H
noncomputable def tC (v:V):TE:=fun _ H Q=>Q v H
theorem pe_var {i:Nat} {x:Str} {pos:Pos} (hN:X.N[i]?=some x) (hv:Vis X.env.scope x) (hd:(x==("__debug__" : Str))=false:=by decide) (hcd:(x==("__classdict__" : Str))=false:=by decide):PE X (.Name x pos) (tVar i):=by
 intro pins s σ H Q I h
 obtain ⟨v,e,h⟩:=h
 obtain ⟨m,hn,hl⟩:=I.loc
 obtain ⟨u,r,l⟩:=hl i x v hN e hv
 have fin:EP X pins σ Q u s:=⟨v,H,I,r,h⟩
 rcases l with ⟨hk,hm⟩ | ⟨hk,c,hc,hcell⟩
 ·exact wpAny_Name (wpAny_loadName_local I.ok.kind hk hn hm fin) hd
 ·rcases hk with hk | hk
  ·exact wpAny_Name (wpAny_loadName_cell I.ok.kind hk hc hcell fin) hd
  ·exact wpAny_Name (wpAny_loadName_free I.ok.kind hk hc hcell fin hcd) hd
theorem Z9 {i j pos}:PE X (.Constant (.int i) j pos) (tC (.int i)):=fun _ _ _ H _ I h=>wpAny_Constant_int ⟨.int i,H,I.tok _,⟨_,rfl⟩,h⟩
theorem pe_bl {b j pos}:PE X (.Constant (.bool b) j pos) (tC (.bl b)):=fun _ _ _ H _ I h=>Constant_bool ⟨.bl b,H,I,rfl,h⟩
theorem Z6t {j pos}:PE X (.Constant .none j pos) (tC .non):=fun _ _ _ H _ I h=>Constant_none ⟨.non,H,I,rfl,h⟩
def Gl (X:Cx) (x:Str):Prop:=X.env.kindOf x=some .globalImplicit
theorem Z1q {E:Value→Shared→Prop} {pins:List (Addr×Obj)} {s:Shared} {σ:St} {H:Hp} {x:Str} {u:Value} {pos:Pos} {Q:Value→Shared→Prop} (I:Inv X pins σ H s) (hg:Gl X x) (hm:X.mg x=some u) (h:Q u s)
  (hd:(x==("__debug__" : Str))=false:=by decide):wpAny (model X.prog X.w) X.A (eval (.Name x pos) X.env) Q E s:=
 Calls.Name_function_global I.ok.kind hg (Calls.loadGlobal_global (by rw[I.ok.glob];exact I.mod.glob.keeps I.bk) hm h) hd
theorem Z58 {E:Value→Shared→Prop} {pins:List (Addr×Obj)} {s:Shared} {σ:St} {H:Hp} {x:Str} {u:Value} {pos:Pos} {Q:Value→Shared→Prop} (I:Inv X pins σ H s) (hg:Gl X x) (hm:X.mg x=none) (hv:bootBuiltins x=some u) (h:Q u s)
  (hn:x ≠ "__name__" := by decide) (hd:(x==("__debug__" : Str))=false:=by decide):wpAny (model X.prog X.w) X.A (eval (.Name x pos) X.env) Q E s:=by
 obtain ⟨mb,h1,h2⟩:=I.mod.blt
 exact Calls.Name_function_global I.ok.kind hg (Calls.loadGlobal_builtin (by rw[I.ok.glob];exact I.mod.glob.keeps I.bk) hm (by rw[I.ok.blt];exact h1.keeps I.bk) ((h2 x hn).trans hv) h) hd
theorem Zd {x:Str} {v:V} {u:Value} {pos:Pos} (hg:Gl X x) (hm:X.mg x=some u) (r:RelV v u) (hd:(x==("__debug__" : Str))=false:=by decide):PE X (.Name x pos) (tC v):=
 fun _ _ _ H _ I h=>Z1q I hg hm ⟨v,H,I,r,h⟩ hd
variable {a b:Expr} {ta tb:TE} {pos:Pos}
def PC (X:Cx) (op:CmpOp) (a b:Expr) (t:TE):Prop:=
 ∀ (pins:List (Addr×Obj)) (s:Shared) (σ:St) (H:Hp) (Q:VK),Inv X pins σ H s→t σ H Q →
  wpAny (model X.prog X.w) X.A (eval a X.env) (fun v s₁=>wpAny (model X.prog X.w) X.A (eval b X.env) (fun u s₂=>wpAny (model X.prog X.w) X.A (compareOp op v u) (EP X pins σ Q) X.xe s₂) X.xe s₁) X.xe s
theorem nobehind (b:Expr) {op:CmpOp} (h:op≠.In) (h2:op≠.NotIn):behindInMarks op b=false:=by
 have e1:(op==CmpOp.In)=false:=by cases op <;> first | rfl | exact absurd rfl h
 have e2:(op==CmpOp.NotIn)=false:=by cases op <;> first | rfl | exact absurd rfl h2
 cases b <;> simp[behindInMarks,e1,e2]
noncomputable def tIsN (ta:TE):TE:=fun σ H Q=>ta σ H fun x H1=>Q (.bl (decide (x=.non))) H1
noncomputable def tNotN (ta:TE):TE:=fun σ H Q=>ta σ H fun x H1=>Q (.bl (!decide (x=.non))) H1
theorem RelV.none_iff {x:V} {v:Value} (r:RelV x v):(v==Value.none)=decide (x=.non):=by
 cases x with
 | non=>cases r;rfl
 | bl _=>cases r;rfl
 | int _=>obtain ⟨t,rfl⟩:=r;rfl
 | str _=>obtain ⟨t,rfl⟩:=r;rfl
 | byt _=>obtain ⟨t,rfl⟩:=r;rfl
 | flt _=>obtain ⟨t,rfl⟩:=r;rfl
 | ref _=>cases r;rfl
 | ty _=>cases r;rfl
theorem Z6u {j pos'} (ha:PE X a ta):PC X .Is a (.Constant .none j pos') (tIsN ta):=by
 intro pins s σ H Q I h
 refine thn (ha pins s σ H _ I h) fun v s1 ⟨x,H1,I1,r1,q1⟩=>?_
 exact Constant_none (is_none_gen ⟨.bl _,H1,I1,by rw[r1.none_iff];rfl,q1⟩)
theorem Z89 {j pos'} (ha:PE X a ta):PC X .IsNot a (.Constant .none j pos') (tNotN ta):=by
 intro pins s σ H Q I h
 refine thn (ha pins s σ H _ I h) fun v s1 ⟨x,H1,I1,r1,q1⟩=>?_
 exact Constant_none (isnot_none_gen ⟨.bl _,H1,I1,by rw[r1.none_iff];rfl,q1⟩)
noncomputable def tB (t:TE):TT:=fun σ H Q=>t σ H fun x H1=>∃ c,x=.bl c∧Q c H1
theorem pe_cmp {op:CmpOp} {t:TE} (h:PC X op a b t) (h1:behindInMarks op b=false:=by first | exact nobehind _ (by decide) (by decide) | rfl):PE X (.Compare a [op] [b] pos) t:=fun pins s σ H Q I hw=>wpAny_Compare1 (h pins s σ H Q I hw) h1
theorem Uu {op:CmpOp} {t:TE} (h:PC X op a b t) (h1:behindInMarks op b=false:=by first | exact nobehind _ (by decide) (by decide) | rfl):PT X (.Compare a [op] [b] pos) (tB t):=by
 intro pins s σ H Q I hw
 refine wpAny_isTrue_Compare1 (thn (h pins s σ H _ I hw) fun v s1 h1=>thn h1 fun u s2 h2=>thn h2 fun c s3 ⟨x,H1,I1,r1,q1⟩=>?_) h1
 obtain ⟨d,rfl,q⟩:=q1
 cases r1
 exact wpAny_truthy_bool ⟨H1,I1,q⟩
theorem Z4q {e:Expr} {t:TE} (h:PE X e t) (he:∀ whole,isTrue e X.env whole=(do let v ← whole;standAt e.pos;holding [v] (truthy v)):=by intro _;rfl):PT X e (tB t):=by
 intro pins s σ H Q I hw
 refine isTrue_plain (thn (h pins s σ H _ I hw) fun v s1 ⟨x,H1,I1,r1,q1⟩=>?_) (he _)
 obtain ⟨d,rfl,q⟩:=q1
 cases r1
 exact wpAny_truthy_bool ⟨H1,I1,q⟩
variable {tA tB':TT} {rest:List Expr}
noncomputable def tAnd (t u:TT):TT:=fun σ H Q=>t σ H fun c H1=>if c=true then u σ H1 Q else Q false H1
noncomputable def tOr (t u:TT):TT:=fun σ H Q=>t σ H fun c H1=>if c=true then Q true H1 else u σ H1 Q
noncomputable def tNot (t:TT):TT:=fun σ H Q=>t σ H fun c H1=>Q (!c) H1
theorem Zak (ha:PT X a tA):PW X (.BoolOp .And [a] pos) tA:=by
 intro wh pins s σ H Q I h
 refine isTrue_and (thn (ha pins s σ H Q I h) fun c s1 e=>?_)
 cases c with
 | true=>exact isTrue_and_nil e
 | false=>exact e
theorem Zeq (ha:PT X a tA):PW X (.BoolOp .Or [a] pos) tA:=by
 intro wh pins s σ H Q I h
 refine isTrue_or (thn (ha pins s σ H Q I h) fun c s1 e=>?_)
 cases c with
 | false=>exact isTrue_or_nil e
 | true=>exact e
theorem Zer (ha:PT X a tA) (hb:PW X (.BoolOp .And (b::rest) pos) tB'):PW X (.BoolOp .And (a::b::rest) pos) (tAnd tA tB'):=by
 intro wh pins s σ H Q I h
 refine isTrue_and (thn (ha pins s σ H _ I h) fun c s1 ⟨H1,I1,q1⟩=>?_)
 cases c with
 | true=>exact hb wh pins s1 σ H1 Q I1 q1
 | false=>exact ⟨H1,I1,q1⟩
theorem pw_or (ha:PT X a tA) (hb:PW X (.BoolOp .Or (b::rest) pos) tB'):PW X (.BoolOp .Or (a::b::rest) pos) (tOr tA tB'):=by
 intro wh pins s σ H Q I h
 refine isTrue_or (thn (ha pins s σ H _ I h) fun c s1 ⟨H1,I1,q1⟩=>?_)
 cases c with
 | true=>exact ⟨H1,I1,q1⟩
 | false=>exact hb wh pins s1 σ H1 Q I1 q1
theorem Zbn (ha:PT X a tA):PT X (.UnaryOp .Not a pos) (tNot tA):=by
 intro pins s σ H Q I h
 exact isTrue_not (ha pins s σ H (fun c H1=>Q (!c) H1) I h)
noncomputable def tAndV (ta tb:TE):TE:=fun σ H Q=>ta σ H fun x H1=>∃ c,x=.bl c∧if c=true then tb σ H1 Q else Q (.bl false) H1
noncomputable def tOrV (ta tb:TE):TE:=fun σ H Q=>ta σ H fun x H1=>∃ c,x=.bl c∧if c=true then Q (.bl true) H1 else tb σ H1 Q
theorem Zbq {op} {t:TE} (h:PE X a t):PE X (.BoolOp op [a] pos) t:=fun pins s σ H Q I hw=>BoolOp_one (h pins s σ H Q I hw)
theorem Zf2 (ha:PE X a ta) (hb:PE X (.BoolOp .And (b::rest) pos) tb):PE X (.BoolOp .And (a::b::rest) pos) (tAndV ta tb):=by
 intro pins s σ H Q I h
 refine BoolOp_and (thn (ha pins s σ H _ I h) fun v s1 ⟨x,H1,I1,r1,q1⟩=>?_)
 obtain ⟨c,rfl,q1⟩:=q1
 cases r1
 refine wpAny_truthy_bool ?_
 cases c with
 | true=>exact hb pins s1 σ H1 Q I1 q1
 | false=>exact ⟨.bl false,H1,I1,rfl,q1⟩
theorem pe_or (ha:PE X a ta) (hb:PE X (.BoolOp .Or (b::rest) pos) tb):PE X (.BoolOp .Or (a::b::rest) pos) (tOrV ta tb):=by
 intro pins s σ H Q I h
 refine BoolOp_or (thn (ha pins s σ H _ I h) fun v s1 ⟨x,H1,I1,r1,q1⟩=>?_)
 obtain ⟨c,rfl,q1⟩:=q1
 cases r1
 refine wpAny_truthy_bool ?_
 cases c with
 | false=>exact hb pins s1 σ H1 Q I1 q1
 | true=>exact ⟨.bl true,H1,I1,rfl,q1⟩
noncomputable def tIf (t:TT) (ta tb:TE):TE:=fun σ H Q=>t σ H fun c H1=>if c=true then ta σ H1 Q else tb σ H1 Q
theorem Z27 {c:Expr} (hc:PT X c tA) (ha:PE X a ta) (hb:PE X b tb):PE X (.IfExp c a b pos) (tIf tA ta tb):=by
 intro pins s σ H Q I h
 refine wpAny_IfExp (thn (hc pins s σ H _ I h) fun d s1 ⟨H1,I1,q1⟩=>?_)
 cases d with
 | true=>exact ha pins s1 σ H1 Q I1 q1
 | false=>exact hb pins s1 σ H1 Q I1 q1
end
end L2
namespace L2
open PySem PySem.Spec PyProof.Rows
def SqL (K:PySem.W.Frag) (H:Hp) (a:Addr) (xs:List V):Prop:=
 Rd H a (.lst xs) ∨
  ∃ (o:Obj) (its:Array Value) (n:Nat),K.lookup a=some o∧o.cls=.type "list" ∧ o.dict=none∧o.data=.seq its n∧its.size≤sizeLine∧Vals xs its.toList
def SqT (K:PySem.W.Frag) (H:Hp) (a:Addr) (xs:List V):Prop:=
 Rd H a (.tup xs) ∨
  ∃ (o:Obj) (its:Array Value) (n:Nat),K.lookup a=some o∧o.cls=.type "tuple" ∧ o.data=.seq its n∧its.size≤sizeLine∧Vals xs its.toList
noncomputable def absV:Value→Option V
 | .none=>some .non
 | .bool b=>some (.bl b)
 | .int i _=>some (.int i)
 | .str x _=>some (.str x)
 | .bytes b _=>some (.byt b)
 | .float b _=>some (.flt b)
 | .ref a=>some (.ref a)
 | .type n=>some (.ty n)
 | _=>none
theorem RelV.abs {x:V} {u:Value} (r:RelV x u):absV u=some x:=by
 cases x with
 | non=>cases r;rfl
 | bl _=>cases r;rfl
 | int _=>obtain ⟨t,rfl⟩:=r;rfl
 | str _=>obtain ⟨t,rfl⟩:=r;rfl
 | byt _=>obtain ⟨t,rfl⟩:=r;rfl
 | flt _=>obtain ⟨t,rfl⟩:=r;rfl
 | ref _=>cases r;rfl
 | ty _=>cases r;rfl
theorem RelV.inj {x y:V} {u:Value} (r:RelV x u) (q:RelV y u):x=y:=Option.some.inj (r.abs.symm.trans q.abs)
theorem Vals.inj:∀ {xs ys:List V} {us:List Value},Vals xs us→Vals ys us→xs=ys
 | _,_,_,.nil,.nil=>rfl
 | _,_,_,.cons r t,.cons r' t'=>by rw[r.inj r',Vals.inj t t']
section
variable {X:Cx} {pins:List (Addr×Obj)} {σ:St} {H:Hp} {s:Shared} {a:Addr} {xs ys:List V}
theorem SqL.of {K:PySem.W.Frag} (h:H a=some (.lst xs)):SqL K H a xs:=.inl (.inl h)
theorem SqT.of {K:PySem.W.Frag} (h:H a=some (.tup xs)):SqT K H a xs:=.inl (.inl h)
theorem Inv.list (I:Inv X pins σ H s) (h:SqL X.K H a xs):∃ its:List Value,Vals xs its∧PlainL s.heap a its.toArray∧xs.length≤sizeLine:=by
 rcases h with h | ⟨o,its,n,hk,hc,hd,hs,hz,r⟩
 ·obtain ⟨z,its,n,r,e⟩:=h.ok I.hok
  exact ⟨its,r,⟨_,n,e,rfl,rfl,rfl⟩,z⟩
 ·refine ⟨its.toList,r,⟨o,n,I.kIn a o hk,hc,hd,by simpa using hs⟩,?_⟩
  have e:=r.length
  simp only[Array.length_toList] at e
  omega
theorem Inv.tuple (I:Inv X pins σ H s) (h:SqT X.K H a xs):∃ its:List Value,Vals xs its∧IsTup s.heap a its.toArray∧xs.length≤sizeLine:=by
 rcases h with h | ⟨o,its,n,hk,hc,hs,hz,r⟩
 ·obtain ⟨z,its,r,p⟩:=h.ok I.hok
  exact ⟨its,r,p,z⟩
 ·refine ⟨its.toList,r,⟨o,I.kIn a o hk,hc,n,by simpa using hs⟩,?_⟩
  have e:=r.length
  simp only[Array.length_toList] at e
  omega
theorem Inv.list_inj (I:Inv X pins σ H s) (h:SqL X.K H a xs) (h':SqL X.K H a ys):xs=ys:=by
 obtain ⟨its,r,⟨o,n,e,_,_,d⟩,_⟩:=I.list h
 obtain ⟨its',r',⟨o',n',e',_,_,d'⟩,_⟩:=I.list h'
 rw[e] at e';cases e'
 rw[d] at d'
 injection d' with d1 _
 have:its=its':=by simpa using congrArg Array.toList d1
 subst this
 exact r.inj r'
theorem Inv.tuple_inj (I:Inv X pins σ H s) (h:SqT X.K H a xs) (h':SqT X.K H a ys):xs=ys:=by
 obtain ⟨its,r,⟨o,e,_,n,d⟩,_⟩:=I.tuple h
 obtain ⟨its',r',⟨o',e',_,n',d'⟩,_⟩:=I.tuple h'
 rw[e] at e';cases e'
 rw[d] at d'
 injection d' with d1 _
 have:its=its':=by simpa using congrArg Array.toList d1
 subst this
 exact r.inj r'
end
abbrev Cx.wish (X:Cx) (E:Value→Shared→Prop):Cx:={ X with xe:=E }
abbrev Cx.nox (X:Cx):Cx:=X.wish fun _ _=>False
theorem Cx.Ok.wish {X:Cx} (ok:X.Ok) (E:Value→Shared→Prop):(X.wish E).Ok:=
 ⟨ok.mod,ok.kind,ok.glob,ok.blt,ok.above,ok.inj,ok.has,ok.cab,ok.hd,ok.frames,ok.stk,ok.exf,ok.bs,ok.bsz,ok.noex,ok.exfs,ok.funs,ok.frf⟩
theorem Cx.Ok.unwish {X:Cx} {E:Value→Shared→Prop} (ok:(X.wish E).Ok):X.Ok:=
 ⟨ok.mod,ok.kind,ok.glob,ok.blt,ok.above,ok.inj,ok.has,ok.cab,ok.hd,ok.frames,ok.stk,ok.exf,ok.bs,ok.bsz,ok.noex,ok.exfs,ok.funs,ok.frf⟩
section
variable {X:Cx} {pins:List (Addr×Obj)} {σ:St} {H:Hp} {s:Shared} {E:Value→Shared→Prop}
theorem Inv.wish (I:Inv X pins σ H s) (E:Value→Shared→Prop):Inv (X.wish E) pins σ H s:=⟨I.ok.wish E,I.os,I.bare,I.base,I.loc,I.cell,I.free,I.freeC,I.pin,I.hok,I.len⟩
theorem Inv.unwish (I:Inv (X.wish E) pins σ H s):Inv X pins σ H s:=⟨I.ok.unwish,I.os,I.bare,I.base,I.loc,I.cell,I.free,I.freeC,I.pin,I.hok,I.len⟩
theorem SP.unwish {D:Ends} {f:Flow} {s':Shared} (h:SP (X.wish E) pins D f s'):SP X pins D f s':=by
 cases f with
 | next=>obtain ⟨σ',H',I,q⟩:=h;exact ⟨σ',H',I.unwish,q⟩
 | brk=>obtain ⟨σ',H',I,q⟩:=h;exact ⟨σ',H',I.unwish,q⟩
 | cont=>obtain ⟨σ',H',I,q⟩:=h;exact ⟨σ',H',I.unwish,q⟩
 | ret u=>obtain ⟨v,σ',H',I,r,q⟩:=h;exact ⟨v,σ',H',I.unwish,r,q⟩
theorem PSs.nox {st:List Stmt} {t:TS} (h:PSs X.nox st t):PSs X st t:=fun pins s σ H D I hw=>
 wpAny_mono (h pins s σ H D (I.wish _) hw) (fun _ _ q=>q.unwish) fun _ _ z=>False.elim z
end
section
variable {X:Cx} {st:Stmt} {rest:List Stmt} {t u:TS} {e:Expr} {te:TE} {pos:Pos}
noncomputable def tNext:TS:=fun D σ H=>D.nx σ H
noncomputable def tSeq (t u:TS):TS:=fun D σ H=>t { D with nx:=u D } σ H
theorem Zp:PSs X [] tNext:=fun _ _ σ H _ I h=>wpAny_execs_nil ⟨σ,H,I,h⟩
theorem Z4 (h1:PS X st t) (h2:PSs X rest u):PSs X (st::rest) (tSeq t u):=by
 intro pins s σ H D I h
 refine wpAny_execs_cons (thn (h1 pins s σ H { D with nx:=u D } I h) fun f s1 q=>?_)
 cases f with
 | next=>
  obtain ⟨σ',H',I',q⟩:=q
  exact h2 pins s1 σ' H' D I' q
 | ret v=>exact q
 | brk=>exact q
 | cont=>exact q
theorem Z5 (h1:PS X st t):PSs X [st] t:=by
 intro pins s σ H D I h
 refine wpAny_execs_cons (thn (h1 pins s σ H D I h) fun f s1 q=>?_)
 cases f with
 | next=>exact wpAny_execs_nil q
 | ret v=>exact q
 | brk=>exact q
 | cont=>exact q
noncomputable def tCont:TS:=fun D σ H=>D.ct σ H
theorem Zam:PS X (.Continue pos) tCont:=fun _ _ σ H _ I h=>wpAny_Continue ⟨σ,H,I,h⟩
theorem Inv.quiet {pins:List (Addr×Obj)} {σ:St} {H:Hp} {s:Shared} (I:Inv X pins σ H s):interactive X.env=false:=by simp[interactive,I.ok.kind]
noncomputable def tDrop (te:TE):TS:=fun D σ H=>te σ H fun _ H1=>D.nx σ H1
theorem Zx (he:PE X e te) (hs:swapsWith e none pos.line X.env=pure false:=by rfl):PS X (.Expr e pos) (tDrop te):=by
 intro pins s σ H D I h
 exact wpAny_Expr_any (thn (he pins s σ H _ I h) fun v s1 ⟨x,H1,I1,r1,q1⟩=>⟨σ,H1,I1,q1⟩) I.quiet hs
noncomputable def tRet (te:TE):TS:=fun D σ H=>te σ H D.rt
theorem Zc (he:PE X e te):PS X (.Return (some e) pos) (tRet te):=by
 intro pins s σ H D I h
 exact wpAny_Return_some (thn (he pins s σ H _ I h) fun v s1 ⟨x,H1,I1,r1,q1⟩=>⟨x,σ,H1,I1,r1,q1⟩)
noncomputable def tRetN:TS:=fun D _ H=>D.rt .non H
theorem ps_retN:PS X (.Return none pos) tRetN:=fun _ _ σ H _ I h=>wpAny_Return_none ⟨.non,σ,H,I,rfl,h⟩
noncomputable def tIfS (c:TT) (t u:TS):TS:=fun D σ H=>c σ H fun b H1=>if b=true then t D σ H1 else u D σ H1
theorem ps_if {c:Expr} {a b:List Stmt} {tc:TT} (hc:PT X c tc) (ha:PSs X a t) (hb:PSs X b u):PS X (.If c a b pos) (tIfS tc t u):=by
 intro pins s σ H D I h
 refine wpAny_If (thn (hc pins s σ H _ I h) fun d s1 ⟨H1,I1,q1⟩=>?_)
 cases d with
 | true=>exact ha pins s1 σ H1 D I1 q1
 | false=>exact hb pins s1 σ H1 D I1 q1
end
abbrev TG:=V→St→Hp→(St→Hp→Prop)→Prop
abbrev TGs:=List V→St→Hp→(St→Hp→Prop)→Prop
def PG (X:Cx) (target:Expr) (t:TG):Prop:=
 ∀ (pins:List (Addr×Obj)) (s:Shared) (σ:St) (H:Hp) (v:V) (u:Value) (Q:St→Hp→Prop),Inv X pins σ H s→RelV v u→t v σ H Q →
  wpAny (model X.prog X.w) X.A (assign target X.env u) (fun _ s'=>∃ σ' H',Inv X pins σ' H' s'∧Q σ' H') X.xe s
def PGs (X:Cx) (ts:List Expr) (t:TGs):Prop:=
 ∀ (pins:List (Addr×Obj)) (s:Shared) (σ:St) (H:Hp) (vs:List V) (us:List Value) (Q:St→Hp→Prop),Inv X pins σ H s→Vals vs us→t vs σ H Q →
  wpAny (model X.prog X.w) X.A (assignInOrder ((assignEach ts X.env).map (·.2)) us) (fun _ s'=>∃ σ' H',Inv X pins σ' H' s'∧Q σ' H') X.xe s
abbrev TSet:=V→V→V→Hp→(Hp→Prop)→Prop
def PSet (X:Cx) (t:TSet):Prop:=
 ∀ (pins:List (Addr×Obj)) (s:Shared) (σ:St) (H:Hp) (o i v:V) (ov iv u:Value) (Q:Hp→Prop),Inv X pins σ H s→RelV o ov→RelV i iv→RelV v u→t o i v H Q →
  wpAny (model X.prog X.w) X.A (setItem ov iv u) (fun _ s'=>∃ H',Inv X pins σ H' s'∧Q H') X.xe s
section
variable {X:Cx} {pos:Pos}
noncomputable def gName (i:Nat):TG:=fun v σ H Q=>Q (σ.set i (some v)) H
theorem Y4 {i:Nat} {x:Str} (hN:X.N.Nodup) (hi:X.N[i]?=some x) (hx:Loc X.env.scope x) (hf:X.fn x=true∨X.env.scope.names.lookup x=some .local:=by first | exact .inl rfl | exact .inr rfl | assumption):PG X (.Name x pos) (gName i):=by
 intro pins s σ H v u Q I r h
 exact wpAny_assign_Name (Zbd I hN hi hx r (fun s' I'=>⟨_,H,I',h⟩) hf)
noncomputable def gNil:TGs:=fun vs σ H Q=>vs=[]∧Q σ H
noncomputable def gCons (t:TG) (u:TGs):TGs:=fun vs σ H Q=>∃ v r,vs=v::r∧t v σ H fun σ' H'=>u r σ' H' Q
theorem Zex:PGs X [] gNil:=by
 intro pins s σ H vs us Q I r h
 obtain ⟨e,h⟩:=h
 subst e
 cases r
 exact assignInOrder_nil ⟨σ,H,I,h⟩
theorem Z3w {e:Expr} {es:List Expr} {t:TG} {u:TGs} (h1:PG X e t) (h2:PGs X es u)
  (hs:(assignEach (e::es) X.env).map (·.2)=assign e X.env::(assignEach es X.env).map (·.2):=by rfl):PGs X (e::es) (gCons t u):=by
 intro pins s σ H vs us Q I r h
 obtain ⟨v,vr,e1,h⟩:=h
 subst e1
 cases r with
 | cons r rr=>
  rw[hs]
  refine assignInOrder_cons (thn (h1 pins s σ H _ _ _ I r h) fun _ s1 ⟨σ1,H1,I1,q1⟩=>?_)
  exact h2 pins s1 σ1 H1 _ _ Q I1 rr q1
noncomputable def gTup (K:PySem.W.Frag) (n:Nat) (t:TGs):TG:=fun v σ H Q=>∃ a xs,v=.ref a∧SqT K H a xs∧xs.length=n∧t xs σ H Q
theorem Zhk {es:List Expr} {k:Nat} {t:TGs} {n:Nat} (hc:X.calm=true) (h:PGs X es t)
  (hn:(assignEach es X.env).length=n:=by rfl) (hst:(assignEach es X.env).findIdx? (·.1)=none:=by rfl):PG X (.Tuple es k pos) (gTup X.K n t):=by
 intro pins s σ H v u Q I r hw
 obtain ⟨a,xs,e1,hq,hl,hw⟩:=hw
 subst e1
 cases r
 obtain ⟨its,rv,ht,hz⟩:=I.tuple hq
 refine assign_Tuple_tuple (I.ok.hd hc) ht (by simp[hn,← hl,rv.length]) hst fun h' hx=>?_
 have I1:Inv X pins σ H { s with heap:=h' }:=I.kept (t':=s.toks) fun b o e=>hx b o (Nat.ne_of_lt (Heap.lt_size e)) e
 exact h pins _ σ H xs _ Q I1 (by simpa using rv) hw
noncomputable def gSub (to ti:TE) (t:TSet):TG:=fun v σ H Q=>to σ H fun o H1=>ti σ H1 fun i H2=>t o i v H2 fun H3=>Q σ H3
theorem Zey {o i:Expr} {to ti:TE} {t:TSet} (ho:PE X o to) (hi:PE X i ti) (hs:PSet X t)
  (ha:∀ v,assign (.Subscript o i pos) X.env v=(do
   let ov ← holding [v] (eval o X.env)
   let iv ← holding [v,ov] (eval i X.env)
   standAt pos
   holding [v,ov,iv] (setItem ov iv v)
   release [v,ov,iv] []):=by intro _;rfl):PG X (.Subscript o i pos) (gSub to ti t):=by
 intro pins s σ H v u Q I r h
 rw[ha]
 refine wpAny_bind (wpAny_holding (thn (ho pins s σ H _ I h) fun ov s1 ⟨x,H1,I1,r1,q1⟩=>?_))
 refine wpAny_bind (wpAny_holding (thn (hi pins s1 σ H1 _ I1 q1) fun iv s2 ⟨y,H2,I2,r2,q2⟩=>?_))
 refine wpAny_bind (wpAny_standAt (wpAny_bind (wpAny_holding (thn (hs pins s2 σ H2 x y v ov iv u _ I2 r1 r2 r q2) fun _ s3 ⟨H3,I3,q3⟩=>?_))))
 exact wpAny_release ⟨σ,H3,I3,q3⟩
noncomputable def tAsg (te:TE) (g:TG):TS:=fun D σ H=>te σ H fun x H1=>g x σ H1 D.nx
theorem Zev {tg e:Expr} {te:TE} {g:TG} (he:PE X e te) (hg:PG X tg g) (hs:swapsWithSole [tg] e pos.line X.env=pure false:=by rfl) (hw:swappedStores [tg] e X.env=pure none:=by rfl)
  (h1:(assignEach [tg] X.env).map (·.2)=[assign tg X.env]:=by rfl):PS X (.Assign [tg] e pos) (tAsg te g):=by
 intro pins s σ H D I h
 refine wpAny_Assign_stores (thn (he pins s σ H _ I h) fun v s1 ⟨x,H1,I1,r1,q1⟩=>?_) hs hw
 rw[h1]
 exact thn (hg pins s1 σ H1 x v _ I1 r1 q1) fun _ s2 q=>q
theorem Zy {i:Nat} {x:Str} {e:Expr} {te:TE} {pos':Pos} (hN:X.N.Nodup) (hi:X.N[i]?=some x) (hx:Loc X.env.scope x) (he:PE X e te) (hs:swapsWith e (some (.Name x pos')) pos.line X.env=pure false:=by rfl) (hf:X.fn x=true∨X.env.scope.names.lookup x=some .local:=by first | exact .inl rfl | exact .inr rfl | assumption) :
  PS X (.Assign [.Name x pos'] e pos) (tAsg te (gName i)):=by
 intro pins s σ H D I h
 refine wpAny_Assign_Name (thn (he pins s σ H _ I h) fun v s1 ⟨y,H1,I1,r1,q1⟩=>?_) hs
 exact Zbd I1 hN hi hx r1 (fun s2 I2=>⟨_,H1,I2,q1⟩) hf
end
section
variable {X:Cx} {pos:Pos}
def tWhile (c:TT) (tb:TS):TS:=fun D σ H=>∃ W:Nat→St→Hp→Prop,(∃ m,W m σ H)∧∀ m σ H,W m σ H →
 c σ H fun b H1=>if b=true then ∃ N:St→Hp→Prop,(∀ σ' H',N σ' H'→∃ m',m'<m∧W m' σ' H')∧tb { D with nx:=N,ct:=N,bk:=D.nx } σ H1 else D.nx σ H1
theorem Zgo {c:Expr} {body:List Stmt} {tc:TT} {tb:TS} (hp:PassesOwn (model X.prog X.w) X.A X.env X.xe) (hc:PT X c tc) (hb:PSs X body tb):PS X (.While c body [] pos) (tWhile tc tb):=by
 intro pins s σ H D I h
 obtain ⟨W,⟨m0,w0⟩,turn⟩:=h
 refine wpAny_While (codeAny_whileLoop (fun n s'=>∃ σ' H',Inv X pins σ' H' s'∧W n σ' H') ?_ m0 ⟨σ,H,I,w0⟩)
 rintro n s1 ⟨σ1,H1,I1,w1⟩
 refine wpAny_passesOwn hp (thn (hc pins s1 σ1 H1 _ I1 (turn n σ1 H1 w1)) fun b s2 ⟨H2,I2,q2⟩=>?_)
 cases b with
 | true=>
  obtain ⟨N,hN,q2⟩:=q2
  rw[if_pos rfl]
  refine wpAny_passesOwn hp (thn (hb pins s2 σ1 H2 _ I2 q2) fun f s3 q3=>?_)
  cases f with
  | next=>
   obtain ⟨σ3,H3,I3,n3⟩:=q3
   obtain ⟨m',hm,w3⟩:=hN σ3 H3 n3
   exact ⟨m',hm,σ3,H3,I3,w3⟩
  | cont=>
   obtain ⟨σ3,H3,I3,n3⟩:=q3
   obtain ⟨m',hm,w3⟩:=hN σ3 H3 n3
   exact ⟨m',hm,σ3,H3,I3,w3⟩
  | brk=>exact q3
  | ret v=>exact q3
 | false=>
  rw[if_neg Bool.false_ne_true]
  exact wpAny_execs_nil ⟨σ1,H2,I2,q2⟩
end
structure It where
 go:Nat→Hp→Prop
 yld:Nat→Hp→V→Hp→Prop
 stop:Nat→Hp→Prop
def FpOk (X:Cx) (pins:List (Addr×Obj)) (H:Hp) (b:Addr):Prop:=
 H b=none∧b≠X.env.locals∧b ∉ X.fs∧(b∈X.ex∨X.s_0.heap.objs.size≤b)∧(∀ x c,X.env.cells.lookup x=some c→c≠b)∧∀ p∈X.pn++pins,p.1≠b
theorem Inv.fpOk {X:Cx} {pins:List (Addr×Obj)} {σ:St} {H H':Hp} {s:Shared} {b:Addr} (I:Inv X pins σ H s) (hb:s.heap.objs.size≤b) (hn:H' b=none):FpOk X pins H' b:=by
 refine ⟨hn,Nat.ne_of_gt (Nat.lt_of_lt_of_le I.lt hb),I.nofs hb,.inr (Nat.le_trans I.sz hb),fun x c e z=>?_,fun p hp z=>?_⟩
 ·obtain ⟨v,q⟩:=I.cell x c e
  exact absurd (Nat.lt_of_lt_of_le q.lt (by rw[z];exact hb)) (Nat.lt_irrefl _)
 ·exact absurd (Nat.lt_of_lt_of_le (Heap.lt_size (I.pin p hp).1) (by rw[z];exact hb)) (Nat.lt_irrefl _)
structure Turn (P:Program) (w:World) (K:PySem.W.Frag) (tg:Expr) (J:It) (fp:List Addr) (it:Addr) (tn:Nat→Heap→Prop):Prop where
 mem:it∈fp
 obj:∀ i h,tn i h→∀ b∈fp,∃ o,h.get? b=some o∧∀ v,o.data≠.cell v
 keep:∀ i h h',tn i h→(∀ b∈fp,∀ o,h.get? b=some o→h'.get? b=some o)→tn i h'
 item:∀ (X:Cx),X.prog=P→X.w=w→X.K=K→X.calm=true→∀ (i:Nat) (pins:List (Addr×Obj)) (s:Shared) (σ:St) (H:Hp) (E:Value→Shared→Prop),Inv X pins σ H s→(∀ b∈fp,FpOk X pins H b)→tn i s.heap→J.go i H →
  wpAny (model P w) X.A (pyNext (.ref it)) (fun r s1=>∃ u,r=some u ∧
   wpAny (model P w) X.A (letOwnedTupleGo tg (.ref it) u) (fun _ s2=>∃ x H',Inv X pins σ H' s2∧RelV x u∧J.yld i H x H'∧tn (i+1) s2.heap∧∀ b∈fp,H' b=none) E s1) E s
 done:∀ (X:Cx),X.prog=P→X.w=w→X.K=K→X.calm=true→∀ (i:Nat) (pins:List (Addr×Obj)) (s:Shared) (σ:St) (H:Hp) (E:Value→Shared→Prop),Inv X pins σ H s→(∀ b∈fp,FpOk X pins H b)→tn i s.heap→J.stop i H →
  wpAny (model P w) X.A (pyNext (.ref it)) (fun r s1=>r=none∧Inv X pins σ H s1) E s
 self:∀ (A:Around) (i:Nat) (s:Shared) (Q:Value→Shared→Prop) (E:Value→Shared→Prop),tn i s.heap→Q (.ref it) s→wpAny (model P w) A (pyIter (.ref it)) Q E s
abbrev TI:=St→Hp→(It→Hp→Prop)→Prop
def PIE (X:Cx) (pins:List (Addr×Obj)) (σ:St) (tg:Expr) (R:It→Hp→Prop) (itv:Value) (s2:Shared):Prop:=
 ∃ (it:Addr) (fp:List Addr) (tn:Nat→Heap→Prop) (J:It) (H':Hp),itv=.ref it∧Inv X pins σ H' s2∧Turn X.prog X.w X.K tg J fp it tn∧tn 0 s2.heap∧(∀ b∈fp,FpOk X pins H' b)∧R J H'
def PI (X:Cx) (tg iter:Expr) (wi:TI):Prop:=
 ∀ (pins:List (Addr×Obj)) (s:Shared) (σ:St) (H:Hp) (R:It→Hp→Prop),Inv X pins σ H s→wi σ H R →
  wpAny (model X.prog X.w) X.A (eval iter X.env) (fun v s1=>wpAny (model X.prog X.w) X.A (pyIter v) (PIE X pins σ tg R) X.xe s1) X.xe s
theorem go_of {M:Model} {A:Around} {E:Value→Shared→Prop} {s:Shared} {tg:Expr} {it:Addr} {u:Value} {o:Obj} {n:String} {vs:Array Value} {Q:Unit→Shared→Prop} (ho:s.heap.get? it=some o) (hc:o.cls=.type n) (hd:o.data=.fields vs)
  (hn:["enumerate", "zip", "dict_itemiterator", "dict_reverseitemiterator", "odict_iterator", "itertools.zip_longest", "itertools.pairwise"].contains n=false) (hQ:Q () s):wpAny M A (letOwnedTupleGo tg (.ref it) u) Q E s:=by
 unfold letOwnedTupleGo
 cases tg <;> first
  | exact wpAny_pure hQ
  | (cases u <;> first
    | exact wpAny_pure hQ
    | (refine wpAny_bind (wpAny_load ho ?_)
       rw[hc,hd]
       show wpAny M A (if (["enumerate", "zip", "dict_itemiterator", "dict_reverseitemiterator", "odict_iterator", "itertools.zip_longest", "itertools.pairwise"].contains n&&vs[0]?==some (rawInt _))=true then _ else _) Q E s
       rw[if_neg (by intro h;rw[hn,Bool.false_and] at h;cases h)]
       exact wpAny_pure hQ))
noncomputable def Itl (K:PySem.W.Frag) (a:Addr):It:=
 ⟨fun i H=>∃ xs x,SqL K H a xs∧xs[i]?=some x,fun i H x H'=>H'=H∧∀ xs,SqL K H a xs→xs[i]?=some x,fun i H=>∃ xs,SqL K H a xs∧xs.length≤i⟩
noncomputable def Itr (lo:Int) (n:Nat):It:=⟨fun i _=>i<n,fun i H x H'=>H'=H∧x=.int (lo+i),fun i _=>n≤i⟩
theorem Ze3 {P:Program} {w:World} {K:PySem.W.Frag} {tg:Expr} (a it:Addr):Turn P w K tg (Itl K a) [it] it (fun i h=>h.IsListIter it a i) where
 mem:=by simp
 obj:=fun i h st b hb=>by
  have e:b=it:=by simpa using hb
  subst e
  obtain ⟨o,e,c,d⟩:=st
  exact ⟨o,e,fun v z=>by rw[d] at z;cases z⟩
 keep:=fun i h h' st k=>st.at fun o e=>k it (by simp) o e
 item:=by
  intro X hP hw hK hc i pins s σ H E I hf st hg
  subst hP hw hK
  obtain ⟨xs,x,hq,hx⟩:=hg
  obtain ⟨its,rv,p,hz⟩:=I.list hq
  obtain ⟨u,hu,ru⟩:=rv.get hx
  obtain ⟨f0,f1,f2,f3,f4,f5⟩:=hf it (by simp)
  refine wpAny_pyNext_list_item st p.isList (x:=u) (by simpa using hu) fun h' st' sb=>?_
  have I1:Inv X pins σ H { s with heap:=h' }:=I.turned (t':=s.toks) (fun b o hb e=>(sb.2 b hb).trans e) f0 f1 f3 f4 f5
  obtain ⟨o,e,c,d⟩:=id st'
  exact ⟨u,rfl,go_of (s:={ s with heap:=h' }) e c d (by decide) ⟨x,H,I1,ru,⟨rfl,fun ys hy=>by rw[I.list_inj hy hq];exact hx⟩,st',fun b hb=>(hf b hb).1⟩⟩
 done:=by
  intro X hP hw hK hc i pins s σ H E I hf st hg
  subst hP hw hK
  obtain ⟨xs,hq,hx⟩:=hg
  obtain ⟨its,rv,p,hz⟩:=I.list hq
  obtain ⟨f0,f1,f2,f3,f4,f5⟩:=hf it (by simp)
  have hl:=rv.length
  exact wpAny_pyNext_list_end (I.ok.hd hc) st p.isList (by simp;omega) fun h' eb=>⟨rfl,I.turned (t':=s.toks) (fun b o hb e=>eb b o hb e) f0 f1 f3 f4 f5⟩
 self:=fun _ _ _ _ _ st h=>wpAny_pyIter_listiter st h
theorem Zci {P:Program} {w:World} {K:PySem.W.Frag} {tg:Expr} (it:Addr) (lo:Int) (n:Nat):Turn P w K tg (Itr lo n) [it] it (fun i h=>IsRangeIter h it (lo+(i:Nat)*1) ((n:Int)-(i:Nat)) 1) where
 mem:=by simp
 obj:=fun i h st b hb=>by
  have e:b=it:=by simpa using hb
  subst e
  exact ⟨_,st,fun v z=>by
   have z':Data.fields _=Data.cell v:=z
   cases z'⟩
 keep:=fun i h h' st k=>k it (by simp) _ st
 item:=by
  intro X hP hw hK hc i pins s σ H E I hf st hg
  subst hP hw hK
  obtain ⟨f0,f1,f2,f3,f4,f5⟩:=hf it (by simp)
  have W:=Walks.range (prog:=X.prog) (w:=X.w) (I.ok.hd hc) it lo 1 n
  refine W.item i s _ _ hg st fun v h' tk hv st' kk=>?_
  obtain ⟨t,rfl⟩:=hv
  have I1:Inv X pins σ H { s with heap:=h',toks:=tk }:=I.turned (fun b o hb e=>kk b o (by simpa using hb) e) f0 f1 f3 f4 f5
  refine ⟨_,rfl,go_of (s:={ s with heap:=h',toks:=tk }) (n := "range_iterator") st' rfl rfl (by decide) ⟨.int (lo+i),H,I1,⟨t,?_⟩,⟨rfl,rfl⟩,st',fun b hb=>(hf b hb).1⟩⟩
  rw[Int.mul_one]
 done:=by
  intro X hP hw hK hc i pins s σ H E I hf st hg
  subst hP hw hK
  obtain ⟨f0,f1,f2,f3,f4,f5⟩:=hf it (by simp)
  exact wpAny_pyNext_range_end (I.ok.hd hc) st (by have:n≤i:=hg;omega) fun h' eb=>⟨rfl,I.turned (t':=s.toks) (fun b o hb e=>eb b o hb e) f0 f1 f3 f4 f5⟩
 self:=fun _ _ _ _ _ st h=>wpAny_pyIter_rangeiter st h
end L2
namespace L2
open PySem PySem.Spec PyProof.Rows
section
variable {X:Cx} {tg:Expr}
def iList (K:PySem.W.Frag) (tl:TE):TI:=fun σ H R=>tl σ H fun x H1=>∃ a,x=.ref a∧(∃ xs,SqL K H1 a xs)∧R (Itl K a) H1
theorem Ul {l:Expr} {tl:TE} (hl:PE X l tl):PI X tg l (iList X.K tl):=by
 intro pins s σ H R I h
 refine thn (hl pins s σ H _ I h) fun v s1 ⟨x,H1,I1,r1,q1⟩=>?_
 obtain ⟨a,e,⟨xs,hq⟩,q⟩:=q1
 subst e
 cases r1
 obtain ⟨its,rv,p,hz⟩:=I1.list hq
 refine wpAny_pyIter_list p.isList ?_
 refine ⟨s1.heap.objs.size,[s1.heap.objs.size],_,_,H1,rfl,I1.kept (t':=s1.toks) fun b o e=>Heap.get?_push_of_some _ e,Ze3 a _,⟨_,Heap.get?_push_size _ rfl,rfl,rfl⟩,fun b hb=>?_,q⟩
 have e:b=s1.heap.objs.size:=by simpa using hb
 subst e
 exact I1.fpOk (Nat.le_refl _) (I1.hok.fresh (Nat.le_refl _))
theorem Zbk {pins:List (Addr×Obj)} {σ:St} {H:Hp} {s:Shared} {R:It→Hp→Prop} {E:Value→Shared→Prop} {lo hi:Int} {t u v:Tok} {tk:Nat} (I:Inv X pins σ H s) (h1:-(2 ^ 62)≤lo) (h2:lo<2 ^ 62) (h3:-(2 ^ 62)≤hi) (h4:hi<2 ^ 62)
  (q:R (Itr lo (hi-lo).toNat) H):wpAny (model X.prog X.w) X.A (pyIter (.ref s.heap.objs.size)) (PIE X pins σ tg R) E { s with heap:=s.heap.push { cls:=.type "range",data:=.fields #[.int lo t,.int hi u,.int 1 v] },toks:=tk }:=by
 refine wpAny_pyIter_range (IsRange.new ..) (small_one h1 h2 h3 h4) ?_
 have I1:Inv X pins σ H { s with heap:=s.heap.push { cls:=.type "range",data:=.fields #[.int lo t,.int hi u,.int 1 v] },toks:=tk }:=I.kept fun b o e=>Heap.get?_push_of_some _ e
 refine ⟨(s.heap.push { cls:=.type "range",data:=.fields #[.int lo t,.int hi u,.int 1 v] }).objs.size,[(s.heap.push { cls:=.type "range",data:=.fields #[.int lo t,.int hi u,.int 1 v] }).objs.size],_,_,H,rfl,
  I1.kept (t':=tk) fun b o e=>Heap.get?_push_of_some _ e,Zci _ lo (hi-lo).toNat,?_,fun b hb=>?_,q⟩
 ·have e1:lo+((0:Nat):Int)*1=lo:=by simp
  have e2:(((hi-lo).toNat:Nat):Int)-((0:Nat):Int)=Builtin.Range.rangeSize lo hi 1:=by rw[rangeSize_one];split <;> omega
  show IsRangeIter _ _ (lo+((0:Nat):Int)*1) ((((hi-lo).toNat:Nat):Int)-((0:Nat):Int)) 1
  rw[e1,e2]
  exact Heap.get?_push_size _ rfl
 ·have e:b=(s.heap.push { cls:=.type "range",data:=.fields #[.int lo t,.int hi u,.int 1 v] }).objs.size:=by simpa using hb
  subst e
  exact I1.fpOk (Nat.le_refl _) (I1.hok.fresh (Nat.le_refl _))
def iRng1 (ta:TA):TI:=fun σ H R=>ta σ H fun vs H1=>∃ j:Int,vs=[.int j]∧-(2 ^ 62)≤j∧j<2 ^ 62∧R (Itr 0 j.toNat) H1
def iRng2 (ta:TA):TI:=fun σ H R=>ta σ H fun vs H1=>∃ i j:Int,vs=[.int i,.int j]∧(-(2 ^ 62)≤i∧i<2 ^ 62∧-(2 ^ 62)≤j∧j<2 ^ 62)∧R (Itr i (j-i).toNat) H1
theorem J8 {a:Expr} {ta:TA} {p pos:Pos} (hg:Gl X "range") (hm:X.mg "range" = none) (ha:PA X [a] ta) (hs:starEach [a] X.env=[(false,eval a X.env)]:=by rfl):PI X tg (.Call (.Name "range" p) [a] [] pos) (iRng1 ta):=by
 intro pins s σ H R I h
 refine Call_ (Z58 I hg hm boot_range (PyProof.Rows.callWith_type1 (thn (ha pos pins s σ H _ I h) fun us s1 ⟨vs,H1,I1,r1,q1⟩=>?_) hs rfl))
 obtain ⟨j,e,q1,q2,q⟩:=q1
 subst e
 cases r1 with
 | cons r rr=>
  cases rr
  obtain ⟨t,rfl⟩:=r
  exact call_range_1 (Zbk I1 (by omega) (by omega) q1 q2 (by simpa using q))
theorem Z4r {a b:Expr} {ta:TA} {p pos:Pos} (hg:Gl X "range") (hm:X.mg "range" = none) (ha:PA X [a,b] ta) (hs:starEach [a,b] X.env=[(false,eval a X.env),(false,eval b X.env)]:=by rfl) (hs2:starEach [b] X.env=[(false,eval b X.env)]:=by rfl) :
  PI X tg (.Call (.Name "range" p) [a,b] [] pos) (iRng2 ta):=by
 intro pins s σ H R I h
 refine Call_ (Z58 I hg hm boot_range (PyProof.Rows.callWith_type1 (thn (ha pos pins s σ H _ I h) fun us s1 ⟨vs,H1,I1,r1,q1⟩=>?_) (by rw[hs,hs2]) (by rw[hs2];rfl)))
 obtain ⟨i,j,e,⟨q1,q2,q3,q4⟩,q⟩:=q1
 subst e
 cases r1 with
 | cons r rr=>
  cases rr with
  | cons r' rr=>
   cases rr
   obtain ⟨t,rfl⟩:=r
   obtain ⟨t',rfl⟩:=r'
   exact call_range_2 (Zbk I1 q1 q2 q3 q4 q)
def tFor (wi:TI) (g:TG) (tb:TS):TS:=fun D σ H=>wi σ H fun J H1=>∃ W:Nat→Nat→St→Hp→Prop,(∃ m,W 0 m σ H1)∧∀ i m σ H,W i m σ H →
 (J.stop i H∧D.nx σ H)∨(J.go i H∧∃ N:St→Hp→Prop,(∀ σ' H',N σ' H'→∃ m',m'<m∧W (i+1) m' σ' H')∧∀ x H',J.yld i H x H'→g x σ H' fun σ2 H2=>tb { D with nx:=N,ct:=N,bk:=D.nx } σ2 H2)
noncomputable def pinsAt (fp:List Addr) (h:Heap):List (Addr×Obj):=fp.filterMap fun b=>(h.get? b).map fun o=>(b,o)
theorem Z2w {fp:List Addr} {h:Heap} {b:Addr} {o:Obj} (hb:b∈fp) (e:h.get? b=some o):(b,o)∈pinsAt fp h:=List.mem_filterMap.mpr ⟨b,hb,by rw[e];rfl⟩
theorem Zf5 {fp:List Addr} {h:Heap} {p:Addr×Obj} (hp:p∈pinsAt fp h):p.1∈fp∧h.get? p.1=some p.2:=by
 obtain ⟨b,hb,e⟩:=List.mem_filterMap.mp hp
 cases q:h.get? b with
 | none=>rw[q] at e;cases e
 | some o=>
  rw[q] at e
  have e':(b,o)=p:=Option.some.inj e
  subst e'
  exact ⟨hb,q⟩
theorem Inv.pinned {pins:List (Addr×Obj)} {σ:St} {H:Hp} {s:Shared} {fp:List Addr} (I:Inv X pins σ H s) (hf:∀ b∈fp,FpOk X pins H b) (ho:∀ b∈fp,∃ o,s.heap.get? b=some o∧∀ v,o.data≠.cell v):Inv X (pins++pinsAt fp s.heap) σ H s:=
 I.pins_of fun p hp=>(List.mem_append.mp hp).elim (fun z=>I.pin p (List.mem_append_right _ z)) fun z=>by
  obtain ⟨hb,e⟩:=Zf5 z
  obtain ⟨f0,f1,f2,_⟩:=hf p.1 hb
  obtain ⟨o,e',d⟩:=ho p.1 hb
  rw[e] at e';cases e'
  exact ⟨e,f0,f1,f2,d⟩
theorem Inv.unpinned {pins pl:List (Addr×Obj)} {σ:St} {H:Hp} {s:Shared} (I:Inv X (pins++pl) σ H s):Inv X pins σ H s:=I.pins_of fun p hp=>I.pin p (List.mem_append_right _ (List.mem_append_left _ hp))
theorem Jy {iter:Expr} {body:List Stmt} {wi:TI} {g:TG} {tb:TS} {pos:Pos} (hp:PassesOwn (model X.prog X.w) X.A X.env X.xe) (hc:X.calm=true) (hi:PI X tg iter wi) (hg:PG X tg g) (hb:PSs X body tb)
  (hs:∀ x,foldedSetIterable iter X.env x=pure x:=by intro _;rfl):PS X (.For tg iter body [] pos) (tFor wi g tb):=by
 intro pins s σ H D I h
 refine wpAny_For (thn (hi pins s σ H _ I h) fun v s1 h1=>thn h1 fun itv s2 h2=>?_) hs
 obtain ⟨it,fp,tn,J,H2,e,I2,T,st2,f2,W,⟨m0,w0⟩,turn⟩:=h2
 subst e
 have stat:∀ {H':Hp},(∀ b∈fp,H' b=none)→∀ b∈fp,FpOk X pins H' b:=fun hn b hb=>⟨hn b hb,(f2 b hb).2⟩
 refine codeAny_forLoop_any (fun n s'=>∃ i σ' H',Inv X pins σ' H' s'∧tn i s'.heap∧(∀ b∈fp,H' b=none)∧W i n σ' H') ?_ m0 ⟨0,σ,H2,I2,st2,fun b hb=>(f2 b hb).1,w0⟩
 rintro n s3 ⟨i,σ3,H3,I3,st3,fr3,w3⟩
 rcases turn i n σ3 H3 w3 with ⟨stop,qn⟩ | ⟨go,N,hN,step⟩
 ·refine wpAny_passesOwn hp (thn (T.done X rfl rfl rfl hc i pins s3 σ3 H3 X.xe I3 (stat fr3) st3 stop) fun r s4 ⟨hr,I4⟩=>?_)
  subst hr
  exact wpAny_execs_nil ⟨σ3,H3,I4,qn⟩
 ·refine wpAny_passesOwn hp (thn (T.item X rfl rfl rfl hc i pins s3 σ3 H3 X.xe I3 (stat fr3) st3 go) fun r s4 ⟨u,hr,h4⟩=>?_)
  subst hr
  refine wpAny_passesOwn hp (thn h4 fun _ s5 ⟨x,H5,I5,r5,y5,st5,fr5⟩=>?_)
  have I5':=I5.pinned (stat fr5) (T.obj _ _ st5)
  refine wpAny_passesOwn hp (thn (hg _ s5 σ3 H5 x u _ I5' r5 (step x H5 y5)) fun _ s6 ⟨σ6,H6,I6,q6⟩=>?_)
  refine wpAny_passesOwn hp (thn (hb _ s6 σ6 H6 _ I6 q6) fun f s7 q7=>?_)
  have again:∀ {σ7:St} {H7:Hp},Inv X (pins++pinsAt fp s5.heap) σ7 H7 s7→N σ7 H7→∃ m,m<n∧∃ i σ' H',Inv X pins σ' H' s7∧tn i s7.heap∧(∀ b∈fp,H' b=none)∧W i m σ' H':=fun {σ7 H7} I7 n7=>by
   obtain ⟨m',hm,w7⟩:=hN σ7 H7 n7
   refine ⟨m',hm,i+1,σ7,H7,I7.unpinned,T.keep _ _ _ st5 fun b hb o e=>(I7.pin (b,o) (List.mem_append_right _ (List.mem_append_right _ (Z2w hb e)))).1,fun b hb=>?_,w7⟩
   obtain ⟨o,e,d⟩:=T.obj _ _ st5 b hb
   exact (I7.pin (b,o) (List.mem_append_right _ (List.mem_append_right _ (Z2w hb e)))).2.1
  cases f with
  | next=>obtain ⟨σ7,H7,I7,n7⟩:=q7;exact again I7 n7
  | cont=>obtain ⟨σ7,H7,I7,n7⟩:=q7;exact again I7 n7
  | brk=>obtain ⟨σ7,H7,I7,q7⟩:=q7;exact ⟨σ7,H7,I7.unpinned,q7⟩
  | ret v=>obtain ⟨x7,σ7,H7,I7,r7,q7⟩:=q7;exact ⟨x7,σ7,H7,I7.unpinned,r7,q7⟩
end
theorem Z2b {K:PySem.W.Frag} {a:Addr} {xs:List V} {g:TG} {tb:TS} {D:Ends} {σ:St} {H:Hp} (Pv:Nat→St→Hp→Prop) (h0:Pv 0 σ H) (hl:∀ i σ H,i≤xs.length→Pv i σ H→SqL K H a xs)
  (hs:∀ i x σ H,xs[i]?=some x→Pv i σ H→g x σ H fun σ2 H2=>tb { D with nx:=Pv (i+1),ct:=Pv (i+1),bk:=D.nx } σ2 H2) (hd:∀ σ H,Pv xs.length σ H→D.nx σ H) :
  ∃ W:Nat→Nat→St→Hp→Prop,(∃ m,W 0 m σ H)∧∀ i m σ H,W i m σ H →
   ((Itl K a).stop i H∧D.nx σ H)∨((Itl K a).go i H∧∃ N:St→Hp→Prop,(∀ σ' H',N σ' H'→∃ m',m'<m∧W (i+1) m' σ' H')∧∀ x H',(Itl K a).yld i H x H'→g x σ H' fun σ2 H2=>tb { D with nx:=N,ct:=N,bk:=D.nx } σ2 H2):=by
 refine ⟨fun i m σ H=>m=xs.length-i∧i≤xs.length∧Pv i σ H,⟨xs.length,by simp,Nat.zero_le _,h0⟩,?_⟩
 rintro i m σ H ⟨rfl,hi,p⟩
 have q:=hl i σ H hi p
 by_cases hlt:i<xs.length
 ·refine .inr ⟨⟨xs,xs[i],q,by simp[hlt]⟩,Pv (i+1),fun σ' H' p'=>⟨xs.length-(i+1),by omega,rfl,hlt,p'⟩,fun x H' y=>?_⟩
  obtain ⟨e,y⟩:=y
  subst e
  exact hs i x σ _ (y xs q) p
 ·have e:i=xs.length:=by omega
  subst e
  exact .inl ⟨⟨xs,q,Nat.le_refl _⟩,hd σ H p⟩
theorem Jb {lo:Int} {n:Nat} {g:TG} {tb:TS} {D:Ends} {σ:St} {H:Hp} (Pv:Nat→St→Hp→Prop) (h0:Pv 0 σ H)
  (hs:∀ i σ H,i<n→Pv i σ H→g (.int (lo+i)) σ H fun σ2 H2=>tb { D with nx:=Pv (i+1),ct:=Pv (i+1),bk:=D.nx } σ2 H2) (hd:∀ σ H,Pv n σ H→D.nx σ H) :
  ∃ W:Nat→Nat→St→Hp→Prop,(∃ m,W 0 m σ H)∧∀ i m σ H,W i m σ H →
   ((Itr lo n).stop i H∧D.nx σ H)∨((Itr lo n).go i H∧∃ N:St→Hp→Prop,(∀ σ' H',N σ' H'→∃ m',m'<m∧W (i+1) m' σ' H')∧∀ x H',(Itr lo n).yld i H x H'→g x σ H' fun σ2 H2=>tb { D with nx:=N,ct:=N,bk:=D.nx } σ2 H2):=by
 refine ⟨fun i m σ H=>m=n-i∧i≤n∧Pv i σ H,⟨n,by simp,Nat.zero_le _,h0⟩,?_⟩
 rintro i m σ H ⟨rfl,hi,p⟩
 by_cases hlt:i<n
 ·refine .inr ⟨hlt,Pv (i+1),fun σ' H' p'=>⟨n-(i+1),by omega,rfl,hlt,p'⟩,fun x H' y=>?_⟩
  obtain ⟨e,y⟩:=y
  subst e y
  exact hs i σ _ hlt p
 ·have e:i=n:=by omega
  subst e
  exact .inl ⟨Nat.le_refl _,hd σ H p⟩
theorem Zge {c:TT} {tb:TS} {D:Ends} {σ:St} {H:Hp} (Pv:St→Hp→Prop) (μ:St→Hp→Nat) (h0:Pv σ H)
  (hs:∀ σ H,Pv σ H→c σ H fun b H1=>if b=true then tb { D with nx:=fun σ' H'=>Pv σ' H'∧μ σ' H'<μ σ H,ct:=fun σ' H'=>Pv σ' H'∧μ σ' H'<μ σ H,bk:=D.nx } σ H1 else D.nx σ H1)
  (mono:∀ σ H Q Q',(∀ b H1,Q b H1→Q' b H1)→c σ H Q→c σ H Q'):tWhile c tb D σ H:=by
 refine ⟨fun m σ H=>m=μ σ H∧Pv σ H,⟨_,rfl,h0⟩,?_⟩
 rintro m σ H ⟨rfl,p⟩
 refine mono σ H _ _ (fun b H1 q=>?_) (hs σ H p)
 cases b with
 | true=>exact ⟨_,fun σ' H' ⟨p',l⟩=>⟨_,l,rfl,p'⟩,q⟩
 | false=>exact q
end L2
namespace L2
open PySem PySem.Spec PyProof.Rows
abbrev R2:=V→V→Hp→VK→Prop
def OpR (X:Cx) (f:Value→Value→Sem Value) (r:R2):Prop:=
 ∀ (pins:List (Addr×Obj)) (s:Shared) (σ:St) (H:Hp) (x y:V) (v u:Value) (Q:VK),Inv X pins σ H s→RelV x v→RelV y u→r x y H Q →
  wpAny (model X.prog X.w) X.A (f v u) (EP X pins σ Q) X.xe s
def UnR (X:Cx) (f:Value→Sem Value) (r:V→Hp→VK→Prop):Prop:=
 ∀ (pins:List (Addr×Obj)) (s:Shared) (σ:St) (H:Hp) (x:V) (v:Value) (Q:VK),Inv X pins σ H s→RelV x v→r x H Q →
  wpAny (model X.prog X.w) X.A (f v) (EP X pins σ Q) X.xe s
def CallR (X:Cx) (f:Value) (r:List V→Hp→VK→Prop):Prop:=
 ∀ (pins:List (Addr×Obj)) (s:Shared) (σ:St) (H:Hp) (xs:List V) (us:List Value) (Q:VK),Inv X pins σ H s→Vals xs us→r xs H Q →
  wpAny (model X.prog X.w) X.A (call f us) (EP X pins σ Q) X.xe s
def TruR (X:Cx) (r:V→Hp→(Bool→Hp→Prop)→Prop):Prop:=
 ∀ (pins:List (Addr×Obj)) (s:Shared) (σ:St) (H:Hp) (x:V) (v:Value) (Q:Bool→Hp→Prop),Inv X pins σ H s→RelV x v→r x H Q →
  wpAny (model X.prog X.w) X.A (truthy v) (TP X pins σ Q) X.xe s
noncomputable def tOp (r:R2) (ta tb:TE):TE:=fun σ H Q=>ta σ H fun x H1=>tb σ H1 fun y H2=>r x y H2 Q
def tUn (r:V→Hp→VK→Prop) (ta:TE):TE:=fun σ H Q=>ta σ H fun x H1=>r x H1 Q
def rI (C:Int→Int→Prop) (g:Int→Int→V):R2:=fun x y H Q=>∃ i j,x=.int i∧y=.int j∧C i j∧Q (g i j) H
noncomputable def rI0 (g:Int→Int→V):R2:=fun x y H Q=>∃ i j,x=.int i∧y=.int j∧Q (g i j) H
def rU (g:Int→V):V→Hp→VK→Prop:=fun x H Q=>∃ i,x=.int i∧Q (g i) H
section
variable {X:Cx} {a b c:Expr} {ta tb tc:TE} {pos:Pos}
theorem binT (ha:PE X a ta) (hb:PE X b tb) {pins:List (Addr×Obj)} {s:Shared} {σ:St} {H:Hp} {R:V→V→Hp→Prop} (I:Inv X pins σ H s)
  (h:ta σ H fun x H1=>tb σ H1 fun y H2=>R x y H2) {Q:Value→Shared→Prop} {f:Value→Value→Sem Value}
  (hf:∀ v u s2 x y H2,Inv X pins σ H2 s2→RelV x v→RelV y u→R x y H2→wpAny (model X.prog X.w) X.A (f v u) Q X.xe s2) :
  wpAny (model X.prog X.w) X.A (eval a X.env) (fun v s₁=>wpAny (model X.prog X.w) X.A (eval b X.env) (fun u s₂=>wpAny (model X.prog X.w) X.A (f v u) Q X.xe s₂) X.xe s₁) X.xe s:=by
 refine thn (ha pins s σ H _ I h) fun v s1 ⟨x,H1,I1,r1,q1⟩=>?_
 refine thn (hb pins s1 σ H1 _ I1 q1) fun u s2 ⟨y,H2,I2,r2,q2⟩=>?_
 exact hf v u s2 x y H2 I2 r1 r2 q2
theorem pe_op {op:Operator} {r:R2} (ho:OpR X (binaryOp op) r) (ha:PE X a ta) (hb:PE X b tb):PE X (.BinOp a op b pos) (tOp r ta tb):=by
 intro pins s σ H Q I h
 exact wpAny_BinOp (binT ha hb I h fun v u s2 x y H2 I2 rx ry q=>ho pins s2 σ H2 x y v u Q I2 rx ry q)
theorem pe_un {op:UnaryOp} {r:V→Hp→VK→Prop} (ho:UnR X (unaryOp op) r) (ha:PE X a ta):PE X (.UnaryOp op a pos) (tUn r ta):=by
 intro pins s σ H Q I h
 exact UnaryOp_ (thn (ha pins s σ H _ I h) fun v s1 ⟨x,H1,I1,r1,q1⟩=>ho pins s1 σ H1 x v Q I1 r1 q1)
theorem opI {f:Value→Value→Sem Value} {C:Int→Int→Prop} {g:Int→Int→Int}
  (rule:∀ (i j:Int) (t u:Tok) (s:Shared) (Q:Value→Shared→Prop) (E:Value→Shared→Prop),C i j→Q (.int (g i j) s.toks) { s with toks:=s.toks+1 }→wpAny (model X.prog X.w) X.A (f (.int i t) (.int j u)) Q E s) :
  OpR X f (rI C fun i j=>.int (g i j)):=by
 intro pins s σ H x y v u Q I rx ry h
 obtain ⟨i,j,rfl,rfl,hc,q⟩:=h
 obtain ⟨t,rfl⟩:=rx
 obtain ⟨t',rfl⟩:=ry
 exact rule i j t t' s _ _ hc ⟨.int (g i j),H,I.tok _,⟨_,rfl⟩,q⟩
theorem opI0 {f:Value→Value→Sem Value} {g:Int→Int→Int}
  (rule:∀ (i j:Int) (t u:Tok) (s:Shared) (Q:Value→Shared→Prop) (E:Value→Shared→Prop),Q (.int (g i j) s.toks) { s with toks:=s.toks+1 }→wpAny (model X.prog X.w) X.A (f (.int i t) (.int j u)) Q E s) :
  OpR X f (rI0 fun i j=>.int (g i j)):=by
 intro pins s σ H x y v u Q I rx ry h
 obtain ⟨i,j,rfl,rfl,q⟩:=h
 obtain ⟨t,rfl⟩:=rx
 obtain ⟨t',rfl⟩:=ry
 exact rule i j t t' s _ _ ⟨.int (g i j),H,I.tok _,⟨_,rfl⟩,q⟩
theorem opB0 {f:Value→Value→Sem Value} {g:Int→Int→Bool}
  (rule:∀ (i j:Int) (t u:Tok) (s:Shared) (Q:Value→Shared→Prop) (E:Value→Shared→Prop),Q (.bool (g i j)) s→wpAny (model X.prog X.w) X.A (f (.int i t) (.int j u)) Q E s) :
  OpR X f (rI0 fun i j=>.bl (g i j)):=by
 intro pins s σ H x y v u Q I rx ry h
 obtain ⟨i,j,rfl,rfl,q⟩:=h
 obtain ⟨t,rfl⟩:=rx
 obtain ⟨t',rfl⟩:=ry
 exact rule i j t t' s _ _ ⟨.bl (g i j),H,I,rfl,q⟩
def CMul (i j:Int):Prop:=(-(2 ^ 64)<i∧i<2 ^ 64)∨(-(2 ^ 64)<j∧j<2 ^ 64)
theorem CMul.ok {i j:Int} (h:CMul i j):IntMulOk i j:=by
 rcases h with ⟨h1,h2⟩ | ⟨h1,h2⟩
 ·exact .of_left (intBits_le_64 h1 h2)
 ·exact .of_right (intBits_le_64 h1 h2)
theorem Yx:OpR X (binaryOp .Add) (rI0 fun i j=>.int (i+j)):=opI0 fun _ _ _ _ _ _ _ q=>add_int q
theorem Z6x:OpR X (binaryOp .Sub) (rI0 fun i j=>.int (i-j)):=opI0 fun _ _ _ _ _ _ _ q=>sub_int q
theorem op_mul:OpR X (binaryOp .Mult) (rI CMul fun i j=>.int (i*j)):=opI fun _ _ _ _ _ _ _ hc q=>mul_int q hc.ok
theorem Z6y:OpR X (binaryOp .Mod) (rI (fun _ j=>0<j) fun i j=>.int (i%j)):=opI fun i j _ _ _ _ _ hc q=>by
 have h1:(0:Int)<j:=hc
 exact mod_int' (by omega) (by rw[Int.fmod_eq_emod_of_nonneg i (by omega)];exact q)
theorem unI {f:Value→Sem Value} {g:Int→Int}
  (rule:∀ (i:Int) (t:Tok) (s:Shared) (Q:Value→Shared→Prop) (E:Value→Shared→Prop),Q (.int (g i) s.toks) { s with toks:=s.toks+1 }→wpAny (model X.prog X.w) X.A (f (.int i t)) Q E s) :
  UnR X f (rU fun i=>.int (g i)):=by
 intro pins s σ H x v Q I rx h
 obtain ⟨i,rfl,q⟩:=h
 obtain ⟨t,rfl⟩:=rx
 exact rule i t s _ _ ⟨.int (g i),H,I.tok _,⟨_,rfl⟩,q⟩
theorem Zhg:UnR X (unaryOp .USub) (rU fun i=>.int (-i)):=unI fun _ _ _ _ _ q=>neg_int q
end
noncomputable def scal:V→V→Bool
 | .non,.non=>true | .non,.int _=>true | .int _,.non=>true | .non,.bl _=>true | .bl _,.non=>true | .non,.str _=>true | .str _,.non=>true
 | .int _,.int _=>true | .bl _,.bl _=>true | .str _,.str _=>true | .byt _,.byt _=>true
 | .int _,.str _=>true | .str _,.int _=>true | .bl _,.str _=>true | .str _,.bl _=>true
 | _,_=>false
noncomputable def rEq:R2:=fun x y H Q=>scal x y=true∧Q (.bl (decide (x=y))) H
noncomputable def rNe:R2:=fun x y H Q=>scal x y=true∧Q (.bl (!decide (x=y))) H
theorem Zg0 {i j:Int}:decide (V.int i=V.int j)=(i==j):=by
 rw[Bool.eq_iff_iff]
 simp
theorem Zhs {i j:Bool}:decide (V.bl i=V.bl j)=(i==j):=by
 rw[Bool.eq_iff_iff]
 simp
theorem Zfz {i j:Str}:decide (V.str i=V.str j)=(i==j):=by
 rw[Bool.eq_iff_iff]
 simp
theorem Zg1 {i j:Array UInt8}:decide (V.byt i=V.byt j)=(i.toList==j.toList):=by
 rw[Bool.eq_iff_iff]
 cases i
 cases j
 simp
section
variable {X:Cx} {a b c:Expr} {ta tb tc:TE} {pos:Pos}
theorem Yh {pins:List (Addr×Obj)} {σ:St} {H:Hp} {s:Shared} {Q:VK} {k k':Bool} (I:Inv X pins σ H s) (q:Q (.bl k) H) (e:k=k'):EP X pins σ Q (.bool k') s:=by
 subst e
 exact ⟨.bl k,H,I,rfl,q⟩
theorem op_eq:OpR X (compareOp .Eq) rEq:=by
 intro pins s σ H x y v u Q I rx ry h
 obtain ⟨hs,q⟩:=h
 cases x with
 | non=>
  cases rx
  cases y with
  | non=>cases ry;exact PySem.EqNone.eq_none_none (Yh I q (by simp))
  | bl j=>cases ry;exact PySem.EqNone.eq_none_bool (Yh I q (by simp))
  | int j=>obtain ⟨t',rfl⟩:=ry;exact PySem.EqNone.eq_none_int (Yh I q (by simp))
  | str j=>obtain ⟨t',rfl⟩:=ry;exact PySem.EqNone.eq_none_str (Yh I q (by simp))
  | _=>exact absurd (show false=true from hs) Bool.false_ne_true
 | bl i=>
  cases rx
  cases y with
  | non=>cases ry;exact PySem.EqNone.eq_bool_none (Yh I q (by simp))
  | bl j=>cases ry;exact eq_bool (Yh I q Zhs)
  | str j=>obtain ⟨t',rfl⟩:=ry;exact PySem.EqMixed.eq_bool_str (Yh I q (by simp))
  | _=>exact absurd (show false=true from hs) Bool.false_ne_true
 | int i=>
  obtain ⟨t,rfl⟩:=rx
  cases y with
  | non=>cases ry;exact PySem.EqNone.eq_int_none (Yh I q (by simp))
  | int j=>obtain ⟨t',rfl⟩:=ry;exact eq_int (Yh I q Zg0)
  | str j=>obtain ⟨t',rfl⟩:=ry;exact PySem.EqMixed.eq_int_str (Yh I q (by simp))
  | _=>exact absurd (show false=true from hs) Bool.false_ne_true
 | str i=>
  obtain ⟨t,rfl⟩:=rx
  cases y with
  | non=>cases ry;exact PySem.EqNone.eq_str_none (Yh I q (by simp))
  | bl j=>cases ry;exact PySem.EqMixed.eq_str_bool (Yh I q (by simp))
  | int j=>obtain ⟨t',rfl⟩:=ry;exact PySem.EqMixed.eq_str_int (Yh I q (by simp))
  | str j=>obtain ⟨t',rfl⟩:=ry;exact eq_str (Yh I q Zfz)
  | _=>exact absurd (show false=true from hs) Bool.false_ne_true
 | byt i=>
  obtain ⟨t,rfl⟩:=rx
  cases y with
  | byt j=>obtain ⟨t',rfl⟩:=ry;exact PySem.W.eq_bytes (Yh I q Zg1)
  | _=>exact absurd (show false=true from hs) Bool.false_ne_true
 | _=>cases y <;> exact absurd (show false=true from hs) Bool.false_ne_true
theorem op_ne:OpR X (compareOp .NotEq) rNe:=by
 intro pins s σ H x y v u Q I rx ry h
 obtain ⟨hs,q⟩:=h
 cases x with
 | non=>
  cases rx
  cases y with
  | non=>cases ry;exact PySem.EqNone.ne_none_none (Yh I q (by simp))
  | bl j=>cases ry;exact PySem.EqNone.ne_none_bool (Yh I q (by simp))
  | int j=>obtain ⟨t',rfl⟩:=ry;exact PySem.EqNone.ne_none_int (Yh I q (by simp))
  | str j=>obtain ⟨t',rfl⟩:=ry;exact PySem.EqNone.ne_none_str (Yh I q (by simp))
  | _=>exact absurd (show false=true from hs) Bool.false_ne_true
 | bl i=>
  cases rx
  cases y with
  | non=>cases ry;exact PySem.EqNone.ne_bool_none (Yh I q (by simp))
  | bl j=>cases ry;exact ne_bool (Yh I q (congrArg not Zhs))
  | str j=>obtain ⟨t',rfl⟩:=ry;exact PySem.EqMixed.ne_bool_str (Yh I q (by simp))
  | _=>exact absurd (show false=true from hs) Bool.false_ne_true
 | int i=>
  obtain ⟨t,rfl⟩:=rx
  cases y with
  | non=>cases ry;exact PySem.EqNone.ne_int_none (Yh I q (by simp))
  | int j=>obtain ⟨t',rfl⟩:=ry;exact ne_int (Yh I q (congrArg not Zg0))
  | str j=>obtain ⟨t',rfl⟩:=ry;exact PySem.EqMixed.ne_int_str (Yh I q (by simp))
  | _=>exact absurd (show false=true from hs) Bool.false_ne_true
 | str i=>
  obtain ⟨t,rfl⟩:=rx
  cases y with
  | non=>cases ry;exact PySem.EqNone.ne_str_none (Yh I q (by simp))
  | bl j=>cases ry;exact PySem.EqMixed.ne_str_bool (Yh I q (by simp))
  | int j=>obtain ⟨t',rfl⟩:=ry;exact PySem.EqMixed.ne_str_int (Yh I q (by simp))
  | str j=>obtain ⟨t',rfl⟩:=ry;exact ne_str (Yh I q (congrArg not Zfz))
  | _=>exact absurd (show false=true from hs) Bool.false_ne_true
 | byt i=>
  obtain ⟨t,rfl⟩:=rx
  cases y with
  | byt j=>obtain ⟨t',rfl⟩:=ry;exact PySem.W.ne_bytes (Yh I q (congrArg not Zg1))
  | _=>exact absurd (show false=true from hs) Bool.false_ne_true
 | _=>cases y <;> exact absurd (show false=true from hs) Bool.false_ne_true
theorem op_lt:OpR X (compareOp .Lt) (rI0 fun i j=>.bl (decide (i<j))):=opB0 fun _ _ _ _ _ _ _ q=>lt_int q
theorem op_le:OpR X (compareOp .LtE) (rI0 fun i j=>.bl (decide (i≤j))):=opB0 fun _ _ _ _ _ _ _ q=>le_int q
theorem op_gt:OpR X (compareOp .Gt) (rI0 fun i j=>.bl (decide (j<i))):=opB0 fun _ _ _ _ _ _ _ q=>gt_int q
theorem op_ge:OpR X (compareOp .GtE) (rI0 fun i j=>.bl (decide (j≤i))):=opB0 fun _ _ _ _ _ _ _ q=>ge_int q
theorem Y8 (b:Expr) {op:CmpOp} (h:op≠.In:=by decide) (h2:op≠.NotIn:=by decide):behindInMarks op b=false:=by
 have e1:(op==CmpOp.In)=false:=by cases op <;> first | rfl | exact absurd rfl h
 have e2:(op==CmpOp.NotIn)=false:=by cases op <;> first | rfl | exact absurd rfl h2
 cases b <;> simp[behindInMarks,e1,e2]
theorem Z4t {op:CmpOp} {r:R2} (ho:OpR X (compareOp op) r) (ha:PE X a ta) (hb:PE X b tb) (hm:behindInMarks op b=false):PE X (.Compare a [op] [b] pos) (tOp r ta tb):=by
 intro pins s σ H Q I h
 exact wpAny_Compare1 (binT ha hb I h fun v u s2 x y H2 I2 rx ry q=>ho pins s2 σ H2 x y v u Q I2 rx ry q) hm
noncomputable def tTest (t:TE):TT:=fun σ H Q=>t σ H fun x H'=>∃ k,x=.bl k∧Q k H'
theorem Zr {op:CmpOp} {r:R2} (ho:OpR X (compareOp op) r) (ha:PE X a ta) (hb:PE X b tb) (hm:behindInMarks op b=false):PT X (.Compare a [op] [b] pos) (tTest (tOp r ta tb)):=by
 intro pins s σ H Q I h
 refine wpAny_isTrue_Compare1 (thn (ha pins s σ H _ I h) fun v s1 ⟨x,H1,I1,r1,q1⟩=>thn (hb pins s1 σ H1 _ I1 q1) fun u s2 ⟨y,H2,I2,r2,q2⟩=>
  thn (ho pins s2 σ H2 x y v u _ I2 r1 r2 q2) fun c s3 ⟨z,H3,I3,r3,k,e,q3⟩=>?_) hm
 subst e
 cases r3
 exact wpAny_truthy_bool ⟨H3,I3,q3⟩
noncomputable def tChain (r r':R2) (ta tb tc:TE):TE:=fun σ H Q=>ta σ H fun x H1=>tb σ H1 fun y H2=>r x y H2 fun z H3=>∃ k,z=.bl k ∧
 (if k=true then tc σ H3 fun w' H4=>r' y w' H4 Q else Q (.bl false) H3)
theorem Zgw {op op':CmpOp} {r r':R2} (ho:OpR X (compareOp op) r) (ho':OpR X (compareOp op') r') (ha:PE X a ta) (hb:PE X b tb) (hc:PE X c tc)
  (hm:lastMarks [op,op'] [b,c]=false:=by with_unfolding_all rfl):PE X (.Compare a [op,op'] [b,c] pos) (tChain r r' ta tb tc):=by
 intro pins s σ H Q I h
 refine Compare_chain (thn (ha pins s σ H _ I h) fun v s1 ⟨x,H1,I1,r1,q1⟩=>chain_link (thn (hb pins s1 σ H1 _ I1 q1) fun u s2 ⟨y,H2,I2,r2,q2⟩=>
  thn (ho pins s2 σ H2 x y v u _ I2 r1 r2 q2) fun d s3 ⟨z,H3,I3,r3,k,e,q3⟩=>?_)) hm
 subst e
 cases r3
 refine wpAny_truthy_bool ?_
 cases k with
 | false=>exact ite_ff ⟨.bl false,H3,I3,rfl,q3⟩
 | true=>exact ite_tt (chain_last (thn (hc pins s3 σ H3 _ I3 q3) fun w' s4 ⟨z',H4,I4,r4,q4⟩=>ho' pins s4 σ H4 y z' u w' Q I4 r2 r4 q4))
theorem Zgn {op op':CmpOp} {r r':R2} (ho:OpR X (compareOp op) r) (ho':OpR X (compareOp op') r') (ha:PE X a ta) (hb:PE X b tb) (hc:PE X c tc)
  (hm:lastMarks [op,op'] [b,c]=false:=by with_unfolding_all rfl):PT X (.Compare a [op,op'] [b,c] pos) (tTest (tChain r r' ta tb tc)):=by
 intro pins s σ H Q I h
 refine isTrue_chain (thn (ha pins s σ H _ I h) fun v s1 ⟨x,H1,I1,r1,q1⟩=>test_link (thn (hb pins s1 σ H1 _ I1 q1) fun u s2 ⟨y,H2,I2,r2,q2⟩=>
  thn (ho pins s2 σ H2 x y v u _ I2 r1 r2 q2) fun d s3 ⟨z,H3,I3,r3,k,e,q3⟩=>?_)) hm
 subst e
 cases r3
 refine wpAny_truthy_bool ?_
 cases k with
 | false=>
  obtain ⟨k',e',q'⟩:=q3
  cases e'
  exact ite_ff ⟨H3,I3,q'⟩
 | true=>
  refine ite_tt (test_last (thn (hc pins s3 σ H3 _ I3 q3) fun w' s4 ⟨z',H4,I4,r4,q4⟩=>thn (ho' pins s4 σ H4 y z' u w' _ I4 r2 r4 q4) fun d' s5 ⟨z2,H5,I5,r5,k2,e2,q5⟩=>?_))
  subst e2
  cases r5
  exact wpAny_truthy_bool ⟨H5,I5,q5⟩
def TruV (K:PySem.W.Frag) (x:V) (H:Hp) (k:Bool):Prop:=
 match x with
 | .non=>k=false
 | .bl b=>k=b
 | .int i=>k=(i != 0)
 | .str y=>y.length≤sizeLine∧k=((y.length:Int) != 0)
 | .byt y=>y.size≤sizeLine∧k=((y.size:Int) != 0)
 | .ref p=>(∃ xs,SqL K H p xs∧k=!xs.isEmpty)∨(∃ xs,SqT K H p xs∧k=!xs.isEmpty)∨∃ kvs,H p=some (.dK kvs)∧k=!kvs.isEmpty
 | _=>False
theorem Zdh {κ:Type} {kvs:List (κ×V)} {vs:List (κ×Value)} (r:KV kvs vs):(!vs.isEmpty)=!kvs.isEmpty:=by
 cases r <;> rfl
theorem Z75 {xs:List V} {its:List Value} (r:Vals xs its):(!its.toArray.isEmpty)=!xs.isEmpty:=by
 cases r <;> simp
theorem line63:(sizeLine:Nat)<2 ^ 63:=by rw[sizeLine_eq];decide
theorem tru_ok:TruR X (fun x H Q=>∃ k,TruV X.K x H k∧Q k H):=by
 intro pins s σ H x v Q I rx h
 obtain ⟨k,e,q⟩:=h
 have hl:=line63
 have hs:sizeLine=16777216:=sizeLine_eq
 cases x with
 | non=>
  cases rx
  have e':k=false:=e
  subst e'
  exact truthy_none ⟨H,I,q⟩
 | bl b=>
  cases rx
  have e':k=b:=e
  subst e'
  exact wpAny_truthy_bool ⟨H,I,q⟩
 | int i=>
  obtain ⟨t,rfl⟩:=rx
  have e':k=(i != 0):=e
  subst e'
  exact PySem.P.truthy_int ⟨H,I,q⟩
 | str y=>
  obtain ⟨t,rfl⟩:=rx
  obtain ⟨hy,e'⟩:y.length≤sizeLine∧k=((y.length:Int) != 0):=e
  subst e'
  exact PySem.P.truthy_str (by omega) ⟨H,I.tok _,q⟩
 | byt y=>
  obtain ⟨t,rfl⟩:=rx
  obtain ⟨hy,e'⟩:y.size≤sizeLine∧k=((y.size:Int) != 0):=e
  subst e'
  exact PySem.W.truthy_bytes (by omega) ⟨H,I.tok _,q⟩
 | ref p=>
  cases rx
  have e':(∃ xs,SqL X.K H p xs∧k=!xs.isEmpty)∨(∃ xs,SqT X.K H p xs∧k=!xs.isEmpty)∨∃ kvs,H p=some (.dK kvs)∧k=!kvs.isEmpty:=e
  rcases e' with ⟨xs,hx,e'⟩ | ⟨xs,hx,e'⟩ | ⟨kvs,hx,e'⟩
  ·subst e'
   obtain ⟨its,r,pl,hz⟩:=I.list hx
   have hlen:=r.length
   exact wpAny_truthy_list pl.isList (by simp only[List.size_toArray];omega) ⟨H,I.tok _,by rw[Z75 r];exact q⟩
  ·subst e'
   obtain ⟨its,r,pl,hz⟩:=I.tuple hx
   have hlen:=r.length
   exact truthy_tuple pl (by simp only[List.size_toArray];omega) ⟨H,I.tok _,by rw[Z75 r];exact q⟩
  ·subst e'
   obtain ⟨hz,hS,vs,r,m⟩:kvs.length≤sizeLine∧(p==sysModules)=false∧∃ vs,KV kvs vs∧s.heap.DictOf (Zs X.prog X.w) p vs:=I.hok p _ hx
   have hlen:kvs.length=vs.length:=Paired.length r
   exact wpAny_truthy_dict hS m (by omega) ⟨H,I.tok _,by rw[Zdh r];exact q⟩
 | _=>exact (show False from e).elim
theorem Z84 (ha:PE X a ta) (he:∀ whole,isTrue a X.env whole=(do let v ← whole;standAt a.pos;holding [v] (truthy v))) :
  PT X a (fun σ H Q=>ta σ H fun x H'=>∃ k,TruV X.K x H' k∧Q k H'):=by
 intro pins s σ H Q I h
 exact isTrue_plain (thn (ha pins s σ H _ I h) fun v s1 ⟨x,H1,I1,r1,q1⟩=>tru_ok pins s1 σ H1 x v Q I1 r1 q1) (he _)
theorem vals1 {x:V} {us:List Value} (r:Vals [x] us):∃ u,us=[u]∧RelV x u:=by
 cases r with
 | cons r1 r2=>cases r2;exact ⟨_,rfl,r1⟩
theorem vals2 {x y:V} {us:List Value} (r:Vals [x,y] us):∃ u w',us=[u,w']∧RelV x u∧RelV y w':=by
 cases r with
 | cons r1 r2=>
  cases r2 with
  | cons r3 r4=>cases r4;exact ⟨_,_,rfl,r1,r3⟩
theorem Z5l (hc:X.calm=true):CallR X (.builtin "max") (fun xs H Q=>∃ i j,xs=[.int i,.int j]∧Q (.int (if j>i then j else i)) H):=by
 intro pins s σ H xs us Q I r h
 obtain ⟨i,j,rfl,q⟩:=h
 obtain ⟨u,w',rfl,⟨t,rfl⟩,⟨t',rfl⟩⟩:=vals2 r
 refine max_two_ints (I.ok.hd hc) fun h' tk k=>⟨_,H,I.kept k,?_,q⟩
 by_cases hj:j>i
 ·rw[if_pos hj,if_pos hj];exact ⟨_,rfl⟩
 ·rw[if_neg hj,if_neg hj];exact ⟨_,rfl⟩
end
end L2
namespace L2
open PySem PySem.Spec PyProof.Rows
structure ObjM (h:Heap) (x dx C:Addr) (mA:Str→Option Value):Prop where
 obj:h.get? x=some (PySem.W.instObj C dx)
 ns:h.Ns1 dx mA
 ne:dx≠x
theorem Zfb {h:Heap} {dx:Addr} {mA:Str→Option Value} (n:h.Ns1 dx mA):∃ od,h.get? dx=some od∧∀ name,PySem.W.lookIn name od=some (mA name):=by
 obtain ⟨o,es,ep,ho,hd,hk,_,hm⟩:=n
 refine ⟨o,ho,fun name=>?_⟩
 have e:=hm name
 unfold nsFind findBy at e
 rw[← Array.find?_toList] at e
 unfold PySem.W.lookIn
 rw[hd]
 dsimp only
 split
 ·rename_i y q
  rw[q] at e
  exact congrArg some e
 ·rename_i q
  rw[q] at e
  have a:es.toList.any (·.refKey)=false:=by
   rw[List.any_eq_false]
   intro y hy
   obtain ⟨z,t,hkey⟩:=hk y (Array.mem_toList_iff.mp hy)
   simp[DictEntry.refKey,hkey]
  have a':¬ es.toList.any (·.refKey)=true:=by rw[a];exact Bool.false_ne_true
  rw[if_neg a']
  exact congrArg some e
theorem ObjM.look {h:Heap} {x dx C:Addr} {mA:Str→Option Value} (I:ObjM h x dx C mA):∃ od,PySem.W.InstAt h x (PySem.W.instObj C dx) C (some od)∧∀ name,PySem.W.lookIn name od=some (mA name):=
 let ⟨od,ho,hl⟩:=Zfb I.ns
 ⟨od,⟨I.obj,rfl,rfl,ho⟩,hl⟩
section
variable {prog:Program} {w:World} {A:Around} {E:Value→Shared→Prop} {s:Shared} {K:PySem.W.Frag} {x dx C f:Addr} {mA:Str→Option Value} {name:Str} {v:Value}
theorem get_map {expr:Bool} {Q:Value→Shared→Prop} (X:K.In s.heap) (I:ObjM s.heap x dx C mA) (hg:PySem.W.plainGet K C name=true) (hh:PySem.W.hasDictIn K C=true)
  (ha:PySem.W.findIn K (.ref C) name=some none) (hv:mA name=some v) (hv':PySem.W.handedIn v=true) (h:Q v { s with toks:=s.toks+1 }) :
  wpAny (model prog w) A (getAttr (.ref x) name expr) Q E s:=by
 obtain ⟨od,J,hl⟩:=I.look
 exact PySem.W.get_value X J (PySem.W.plainGet_of hg).1 (PySem.W.findObj_own hh ha rfl (by rw[hl,hv])) hv' h
theorem Zh4 {pl:Sem Bool} {Q:Value×List Value→Shared→Prop} (X:K.In s.heap) (I:ObjM s.heap x dx C mA) (hg:PySem.W.plainGet K C name=true)
  (hf:PySem.W.findIn K (.ref C) name=some (some (.ref f))) (ht:PySem.W.isFn K (.ref f)=true) (hv:mA name=none) (h:Q (.ref f,[.ref x]) s) :
  wpAny (model prog w) A (getMethod (.ref x) name pl) Q E s:=by
 obtain ⟨od,J,hl⟩:=I.look
 exact PySem.W.method_fn X J (PySem.W.plainGet_of hg).1 (PySem.W.plainGet_of hg).2 hf (beq_iff_eq.mp ht) (by show (PySem.W.lookIn name od).map (·.isSome)=some false;rw[hl,hv];rfl) h
theorem set_map {ns:List Str} {Q:Unit→Shared→Prop} (X:K.In s.heap) (I:ObjM s.heap x dx C mA)
  (hs:PySem.W.findIn K (.ref C) "__setattr__" = some (some (.builtin "object.__setattr__"))) (hp:PySem.W.plainOver K C=true) (ht:PySem.W.takerIn K C name=some none) (hh:PySem.W.hasDictIn K C=true)
  (hw:PySem.Within mA ns) (hsz:ns.length≤sizeLine)
  (h:∀ h',ObjM h' x dx C (fun y=>if y=name then some v else mA y)→Heap.SameBut dx s.heap h'→Q () { s with heap:=h',toks:=s.toks+2 }) :
  wpAny (model prog w) A (setAttr (.ref x) name v) Q E s:=by
 obtain ⟨od,J,hl⟩:=I.look
 refine PySem.W.set_plain X J hs (PySem.W.osa_open (s:={ s with toks:=s.toks+1 }) (r:=none) X J hp ht fun b=>?_)
 obtain ⟨cd,hc,hd'⟩:=PySem.W.any_some hh
 have hx:s.heap.get? x=some ⟨.ref C,some dx,.plain,#[]⟩:=I.obj
 refine wpAny_bind (wpAny_pure (wpAny_bind (wpAny_bind (wpAny_loadPart hx (wpAny_bind (PySem.W.Looks.here (s:={ s with toks:=s.toks+1 }) (PySem.W.looks_clsIn X hc) ?_))))))
 rw[hd']
 refine wpAny_pure (a:=some dx) (wpAny_bind (wpAny_pure (wpAny_bind ?_)))
 refine wpAny_nsSet1 (s:={ s with toks:=s.toks+1 }) I.ns fun h' hn2 hs2=>?_
 obtain ⟨oD,esD,epD,hoD,hdD,hcD⟩:=hn2.count (PySem.Within.cons name v hw)
 refine wpAny_bind (wpAny_lookBehind hoD (by rw[hdD];exact pastItsLine_dict (Nat.le_trans hcD (by rw[List.length_cons];omega))) ?_)
 exact wpAny_pure (h _ ⟨(hs2.2 _ (Ne.symm I.ne)).trans I.obj,hn2,I.ne⟩ hs2)
theorem Zgz {R:Result→Shared→Prop} {vs:List Value} {kw:List (Str×Value)} (X:K.In s.heap) (hm:PySem.W.makesIn K C=true)
  (hi:PySem.W.findIn K (.ref C) "__init__" = some (some (.ref f))) (hf:PySem.W.typeIn K (.ref f)=some (.type "function"))
  (h:codeAny (model prog w) (A.under (.builtin "type.__call__" ⟨.ref C::vs,kw⟩)) (.call (.ref f) ⟨.ref (s.heap.objs.size+1)::vs,kw⟩) (PySem.W.InitBack (s.heap.objs.size+1) R)
   { s with heap:=(s.heap.push PySem.W.emptyDict).push (PySem.W.instObj C s.heap.objs.size) }) :
  codeAny (model prog w) A (.call (.ref C) ⟨vs,kw⟩) R s:=by
 obtain ⟨hh,g,d,t,os⟩:=s
 exact PySem.W.make_core (PySem.W.makes_of X hm) (PySem.W.looks_findIn X hi) (fun self=>PySem.W.bind_fn X self hf) (.inl rfl) h
end
noncomputable def putF (f:Str) (v:V):List (Str×V)→List (Str×V)
 | []=>[(f,v)]
 | (g,x)::r=>if g=f then (g,v)::r else (g,x)::putF f v r
theorem Z55 (f g:Str) (v:V):∀ fs:List (Str×V),(putF f v fs).lookup g=if g=f then some v else fs.lookup g
 | []=>by
  show List.lookup g [(f,v)]=_
  by_cases h:g=f
  ·have hb:(g==f)=true:=beq_iff_eq.mpr h
   simp only[List.lookup,hb,if_pos h]
  ·have hb:(g==f)=false:=beq_eq_false_iff_ne.mpr h
   simp only[List.lookup,hb,if_neg h]
 | (k,x)::r=>by
  have ih:=Z55 f g v r
  rw[show putF f v ((k,x)::r)=(if k=f then (k,v)::r else (k,x)::putF f v r) from rfl]
  by_cases hk:k=f
  ·rw[if_pos hk]
   by_cases h:g=k
   ·have hb:(g==k)=true:=beq_iff_eq.mpr h
    simp only[List.lookup,hb,if_pos (h.trans hk)]
   ·have hb:(g==k)=false:=beq_eq_false_iff_ne.mpr h
    simp only[List.lookup,hb,if_neg (fun e:g=f=>h (e.trans hk.symm))]
  ·rw[if_neg hk]
   by_cases h:g=k
   ·have hb:(g==k)=true:=beq_iff_eq.mpr h
    simp only[List.lookup,hb,if_neg (fun e:g=f=>hk (h.symm.trans e))]
   ·have hb:(g==k)=false:=beq_eq_false_iff_ne.mpr h
    simp only[List.lookup,hb]
    exact ih
theorem Z5a (f:Str) (v:V):∀ fs:List (Str×V),f∈(putF f v fs).map (·.1)∧∀ g,g∈fs.map (·.1)→g∈(putF f v fs).map (·.1)
 | []=>⟨by simp[putF],fun g h=>by simp at h⟩
 | (k,x)::r=>by
  obtain ⟨i1,i2⟩:=Z5a f v r
  rw[show putF f v ((k,x)::r)=(if k=f then (k,v)::r else (k,x)::putF f v r) from rfl]
  by_cases hk:k=f
  ·rw[if_pos hk]
   subst hk
   exact ⟨by simp,fun g h=>by simpa using h⟩
  ·rw[if_neg hk]
   refine ⟨?_,fun g h=>?_⟩
   ·rw[List.map_cons]
    exact List.mem_cons_of_mem _ i1
   ·rw[List.map_cons] at h ⊢
    rcases List.mem_cons.mp h with e | e
    ·exact List.mem_cons.mpr (.inl e)
    ·exact List.mem_cons_of_mem _ (i2 g e)
theorem Z57 (f:Str) (v:V):∀ fs:List (Str×V),(putF f v fs).length≤fs.length+1
 | []=>by simp[putF]
 | (k,x)::r=>by
  have ih:=Z57 f v r
  rw[show putF f v ((k,x)::r)=(if k=f then (k,v)::r else (k,x)::putF f v r) from rfl]
  by_cases hk:k=f
  ·rw[if_pos hk,List.length_cons,List.length_cons];omega
  ·rw[if_neg hk,List.length_cons,List.length_cons];omega
theorem RelO.some_of {v:V} {o:Option Value} (r:RelO (some v) o):∃ u,o=some u∧RelV v u:=by
 cases o with
 | none=>exact (show False from r).elim
 | some u=>exact ⟨u,rfl,r⟩
theorem RelO.none_of {o:Option Value} (r:RelO none o):o=none:=by
 cases o with
 | none=>rfl
 | some u=>exact (show False from r).elim
theorem Zfq {v:V} {u:Value} (r:RelV v u):PySem.W.handedIn u=true:=by
 cases v with
 | non=>cases (show u=Value.none from r);rfl
 | bl b=>cases (show u=Value.bool b from r);rfl
 | int i=>obtain ⟨t,e⟩:=(show ∃ t,u=Value.int i t from r);cases e;rfl
 | str x=>obtain ⟨t,e⟩:=(show ∃ t,u=Value.str x t from r);cases e;rfl
 | byt b=>obtain ⟨t,e⟩:=(show ∃ t,u=Value.bytes b t from r);cases e;rfl
 | flt b=>obtain ⟨t,e⟩:=(show ∃ t,u=Value.float b t from r);cases e;rfl
 | ref a=>cases (show u=Value.ref a from r);rfl
 | ty n=>cases (show u=Value.type n from r);rfl
section
variable {P:Program} {w:World} {H H':Hp} {h h':Heap} {a C dx:Addr} {fs fs':List (Str×V)}
theorem Zb3 (hok:HOk P w H h) (e:H a=some (.ins C dx fs)):∃ mA,ObjM h a dx C mA∧(∀ f,RelO (fs.lookup f) (mA f))∧PySem.Within mA (fs.map (·.1))∧fs.length≤1000∧H dx=some (.own a):=by
 obtain ⟨d,z,ne,ob,mA,n,r,q⟩:=(show ObjOk P w H h a (.ins C dx fs) from hok a _ e)
 exact ⟨mA,⟨ob,n,ne⟩,r,q,z,d⟩
end
structure Cls (K:PySem.W.Frag) (C:Addr):Prop where
 pg:PySem.W.plainGet K C Str.empty=true
 hd:PySem.W.hasDictIn K C=true
 po:PySem.W.plainOver K C=true
 sa:PySem.W.findIn K (.ref C) "__setattr__" = some (some (.builtin "object.__setattr__"))
theorem Cls.get {K:PySem.W.Frag} {C:Addr} (c:Cls K C) (f:Str):PySem.W.plainGet K C f=true:=c.pg
def NoAttr (K:PySem.W.Frag) (C:Addr) (f:Str):Prop:=PySem.W.findIn K (.ref C) f=some none
theorem NoAttr.taker {K:PySem.W.Frag} {C:Addr} {f:Str} (n:NoAttr K C f):PySem.W.takerIn K C f=some none:=by
 unfold PySem.W.takerIn
 rw[show PySem.W.findIn K (.ref C) f=some none from n]
 rfl
structure Con (K:PySem.W.Frag) (C:Addr) (f:Str) (v:V) (u:Value):Prop where
 at_:PySem.W.findIn K (.ref C) f=some (some u)
 rel:RelV v u
 get:PySem.W.specialIn K u "__get__" = some none
 cp:PySem.W.copiedNames.contains f=false
structure Meth (K:PySem.W.Frag) (C:Addr) (m:Str) (f:Addr):Prop where
 at_:PySem.W.findIn K (.ref C) m=some (some (.ref f))
 fn:PySem.W.isFn K (.ref f)=true
 kp:PySem.W.keepIn K (.ref f)=true
section
variable {X:Cx} {pins:List (Addr×Obj)} {σ:St} {H:Hp} {s:Shared} {a C dx:Addr} {fs:List (Str×V)} {f:Str} {v:V} {A:Around} {E:Value→Shared→Prop}
theorem Z76 {b:Bool} {Q:Value→Shared→Prop} (I:Inv X pins σ H s) (e:H a=some (.ins C dx fs)) (c:Cls X.K C) (n:NoAttr X.K C f) (l:fs.lookup f=some v)
  (h:∀ u s',Inv X pins σ H s'→RelV v u→Q u s'):wpAny (model X.prog X.w) A (getAttr (.ref a) f b) Q E s:=by
 obtain ⟨mA,O,r,_,_,_⟩:=Zb3 I.hok e
 obtain ⟨u,hu,ru⟩:=RelO.some_of (v:=v) (o:=mA f) (by rw[← l];exact r f)
 exact get_map I.kIn O (c.get f) c.hd n hu (Zfq ru) (h u _ (I.tok _) ru)
theorem Z30 {m:Str} {g:Addr} {pl:Sem Bool} {Q:Value×List Value→Shared→Prop} (I:Inv X pins σ H s) (e:H a=some (.ins C dx fs)) (c:Cls X.K C) (k:Meth X.K C m g) (l:fs.lookup m=none)
  (h:Q (.ref g,[.ref a]) s):wpAny (model X.prog X.w) A (getMethod (.ref a) m pl) Q E s:=by
 obtain ⟨mA,O,r,_,_,_⟩:=Zb3 I.hok e
 have hn:mA m=none:=RelO.none_of (by rw[← l];exact r m)
 exact Zh4 I.kIn O (c.get m) k.at_ k.fn hn h
theorem Z6h {y:V} {u:Value} {Q:Unit→Shared→Prop} (I:Inv X pins σ H s) (e:H a=some (.ins C dx fs)) (c:Cls X.K C) (n:NoAttr X.K C f) (hl:fs.length<1000) (ry:RelV y u)
  (h:∀ s',Inv X pins σ (upd H a (.ins C dx (putF f y fs))) s'→Q () s'):wpAny (model X.prog X.w) A (setAttr (.ref a) f u) Q E s:=by
 obtain ⟨mA,O,r,wi,_,ho⟩:=Zb3 I.hok e
 have hz:(fs.map (·.1)).length≤sizeLine:=by rw[List.length_map,sizeLine_eq];omega
 refine set_map I.kIn O c.sa c.po n.taker c.hd wi hz fun h' O' sb=>h _ ?_
 have hd:∃ o,h'.get? dx=some o:=let ⟨o,_,_,e',_⟩:=O'.ns;⟨o,e'⟩
 refine I.write (x:=a) (e:=dx) (by rw[e];exact True.intro) (.inr ho) (fun b q hb z=>(sb.2 b hb).trans z) hd ?_
 refine ⟨by rw[Z8 O.ne];exact ho,?_,O.ne,O'.obj,_,O'.ns,fun g=>?_,fun g hg=>?_⟩
 ·have:=Z57 f y fs;omega
 ·show RelO ((putF f y fs).lookup g) (if g=f then some u else mA g)
  rw[Z55]
  by_cases q:g=f
  ·rw[if_pos q,if_pos q];exact ry
  ·rw[if_neg q,if_neg q];exact r g
 ·by_cases q:g=f
  ·rw[q];exact (Z5a f y fs).1
  ·refine (Z5a f y fs).2 g (wi g fun z=>hg ?_)
   show (if g=f then some u else mA g)=none
   rw[if_neg q];exact z
theorem Inv.made (I:Inv X pins σ H s):Inv X pins σ (upd (upd H s.heap.objs.size (.own (s.heap.objs.size+1))) (s.heap.objs.size+1) (.ins C s.heap.objs.size []))
  { s with heap:=(s.heap.push PySem.W.emptyDict).push (PySem.W.instObj C s.heap.objs.size) }:=by
 have e1:(s.heap.push PySem.W.emptyDict).get? s.heap.objs.size=some PySem.W.emptyDict:=Heap.get?_push_size s.heap rfl
 have e2:((s.heap.push PySem.W.emptyDict).push (PySem.W.instObj C s.heap.objs.size)).get? (s.heap.objs.size+1)=some (PySem.W.instObj C s.heap.objs.size):=by
  have:=Heap.get?_push_size (s.heap.push PySem.W.emptyDict) (o:=PySem.W.instObj C s.heap.objs.size) rfl
  rwa [Heap.size_push] at this
 have e3:(s.heap.push PySem.W.emptyDict).Ns s.heap.objs.size (fun _=>none):=⟨PySem.W.emptyDict,#[],_,e1,rfl,(fun e he=>absurd he (by simp)),fun _=>rfl⟩
 have I1:=I.laid (a:=s.heap.objs.size) (o:=.own (s.heap.objs.size+1)) (h':=s.heap.push PySem.W.emptyDict) (t':=s.toks) (fun b u q=>Heap.get?_push_of_some _ q) (Nat.le_refl _) ⟨_,e1⟩
 refine I1.laid (a:=s.heap.objs.size+1) (o:=.ins C s.heap.objs.size []) (t':=s.toks) (fun b u q=>Heap.get?_push_of_some _ q) (Nat.le_of_eq (Heap.size_push _ _)) ?_
 have ne:s.heap.objs.size≠s.heap.objs.size+1:=Nat.ne_of_lt (Nat.lt_succ_self _)
 refine ⟨by rw[Z8 ne,Z2],Nat.zero_le _,ne,e2,fun _=>none,(Heap.Ns1.of_empty e3).at fun o q=>Heap.get?_push_of_some _ q,fun _=>True.intro,fun y hy=>absurd rfl hy⟩
theorem attr_of {prog:Program} {w:World} {env:Env} {e:Expr} {f:Str} {pos:Pos} {s:Shared} {Q:Value→Shared→Prop} (hb:attributeBase e f env (eval e env)=eval e env)
  (h:wpAny (model prog w) A (eval e env) (fun o s₁=>wpAny (model prog w) A (getAttr o f true) Q E s₁) E s):wpAny (model prog w) A (eval (.Attribute e f pos) env) Q E s:=
 Attribute_any_ h (by rw[arm_eval_Attribute,hb])
end
def tFld (K:PySem.W.Frag) (ta:TE) (f:Str):TE:=fun σ H Q=>ta σ H fun x H1=>∃ a C dx fs v,x=.ref a∧H1 a=some (.ins C dx fs)∧Cls K C∧NoAttr K C f∧fs.lookup f=some v∧Q v H1
def sFld (K:PySem.W.Frag) (ta tv:TE) (f:Str):TS:=fun D σ H=>tv σ H fun y H1=>ta σ H1 fun x H2=>∃ a C dx fs,x=.ref a∧H2 a=some (.ins C dx fs)∧Cls K C∧NoAttr K C f∧fs.length<1000 ∧
 D.nx σ (upd H2 a (.ins C dx (putF f y fs)))
def InOp (X:Cx) (op:Operator) (rd:V→V→Hp→VK→Prop):Prop:=
 ∀ (pins:List (Addr×Obj)) (s:Shared) (σ:St) (H:Hp) (x y:V) (u v:Value) (Q:VK),Inv X pins σ H s→RelV x u→RelV y v→rd x y H Q→wpAny (model X.prog X.w) X.A (inplaceOp op u v) (EP X pins σ Q) X.xe s
def sFldAug (K:PySem.W.Frag) (ta tv:TE) (rd:V→V→Hp→VK→Prop) (f:Str):TS:=fun D σ H=>ta σ H fun x H1=>∃ a C dx fs v,x=.ref a∧H1 a=some (.ins C dx fs)∧Cls K C∧NoAttr K C f∧fs.lookup f=some v ∧
 tv σ H1 fun y H2=>rd v y H2 fun z H3=>∃ dx' fs',H3 a=some (.ins C dx' fs')∧fs'.length<1000∧D.nx σ (upd H3 a (.ins C dx' (putF f z fs')))
section
variable {X:Cx} {o e value:Expr} {f:Str} {pos pos' tpos:Pos} {ta tv:TE}
theorem Za (he:PE X e ta) (hb:attributeBase e f X.env (eval e X.env)=eval e X.env):PE X (.Attribute e f pos) (tFld X.K ta f):=by
 intro pins s σ H Q I h
 refine attr_of hb (thn (he pins s σ H _ I h) fun u s1 ⟨x,H1,I1,rx,a,C,dx,fs,v,ex,ea,c,n,l,q⟩=>?_)
 subst ex
 obtain rfl:u=Value.ref a:=rx
 exact Z76 I1 ea c n l fun u' s2 I2 ru=>⟨v,H1,I2,ru,q⟩
theorem Yu (ha:PE X o ta) (hv:PE X value tv) (hs:swapsWith value (some (.Attribute o f pos')) pos.line X.env=pure false):PS X (.Assign [.Attribute o f pos'] value pos) (sFld X.K ta tv f):=by
 intro pins s σ H D I h
 refine plainObj_wpAny_Assign_Attribute (thn (hv pins s σ H _ I h) fun u s1 ⟨y,H1,I1,ry,q⟩=>thn (ha pins s1 σ H1 _ I1 q) fun ov s2 ⟨x,H2,I2,rx,a,C,dx,fs,ex,ea,c,n,l,q2⟩=>?_) hs
 subst ex
 obtain rfl:ov=Value.ref a:=rx
 exact Z6h I2 ea c n l ry fun s3 I3=>⟨σ,_,I3,q2⟩
theorem Zet {op:Operator} {rd:V→V→Hp→VK→Prop} (ha:PE X o ta) (hv:PE X value tv) (hop:InOp X op rd):PS X (.AugAssign (.Attribute o f tpos) op value pos) (sFldAug X.K ta tv rd f):=by
 intro pins s σ H D I h
 refine wpAny_AugAssign_AttributeAny (thn (ha pins s σ H _ I h) fun ov s1 ⟨x,H1,I1,rx,a,C,dx,fs,v,ex,ea,c,n,l,q⟩=>?_)
 subst ex
 obtain rfl:ov=Value.ref a:=rx
 refine Z76 I1 ea c n l fun u s2 I2 ru=>thn (hv pins s2 σ H1 _ I2 q) fun w3 s3 ⟨y,H2,I3,ry,q3⟩=>thn (hop pins s3 σ H2 v y u w3 _ I3 ru ry q3) fun w4 s4 ⟨z,H3,I4,rz,dx',fs',ea',l',q4⟩=>?_
 exact Z6h I4 ea' c n l' rz fun s5 I5=>⟨σ,_,I5,q4⟩
def rAdd:V→V→Hp→VK→Prop:=fun x y H Q=>∃ i j,x=.int i∧y=.int j∧Q (.int (i+j)) H
theorem in_add:InOp X .Add rAdd:=by
 rintro pins s σ H x y u v Q I rx ry ⟨i,j,rfl,rfl,q⟩
 obtain ⟨t,rfl⟩:=(show ∃ t,u=Value.int i t from rx)
 obtain ⟨t',rfl⟩:=(show ∃ t',v=Value.int j t' from ry)
 exact PyProof.Rows.iadd_int ⟨.int (i+j),H,I.tok _,⟨_,rfl⟩,q⟩
theorem methcall_of {pl:Sem Bool} {m:Str} {apos:Pos} {args:List Expr} {pins:List (Addr×Obj)} {s:Shared} {σ:St} {H:Hp} {Q:Value→Shared→Prop} {te:TE} (he:PE X e te) (I:Inv X pins σ H s)
  (h:te σ H fun x H1=>∃ a C dx fs g,x=.ref a∧H1 a=some (.ins C dx fs)∧Cls X.K C∧Meth X.K C m g∧fs.lookup m=none ∧
   ∀ s1,Inv X pins σ H1 s1→wpAny (model X.prog X.w) X.A (callWith pos (.ref g) [.ref a] (backTo pos (starEach args X.env)) (backToKw pos (keywordEach [] X.env))) Q X.xe s1)
  (ht:eval (.Call (.Attribute e m apos) args [] pos) X.env=(do
   let ov ← eval e X.env
   standAt apos.atName
   let (f,first) ← holding [ov] (getMethod ov m pl)
   callWith pos f first (backTo pos (starEach args X.env)) (backToKw pos (keywordEach [] X.env)))) :
  wpAny (model X.prog X.w) X.A (eval (.Call (.Attribute e m apos) args [] pos) X.env) Q X.xe s:=by
 refine PySem.W.methodCall_KW (pl:=pl) (thn (he pins s σ H _ I h) fun u s1 ⟨x,H1,I1,rx,a,C,dx,fs,g,ex,ea,c,k,l,q⟩=>?_) ht
 subst ex
 obtain rfl:u=Value.ref a:=rx
 exact Z30 I1 ea c k l (q s1 I1)
end
section
variable {X:Cx} {pins:List (Addr×Obj)} {σ:St} {H:Hp} {s:Shared} {A:Around} {E:Value→Shared→Prop} {Q:Value→Shared→Prop} {c:Value} {b:Bool}
inductive TyOf (K:PySem.W.Frag) (H:Hp):V→Value→Prop where
 | non:TyOf K H .non (.type "NoneType")
 | bl (x:Bool):TyOf K H (.bl x) (.type "bool")
 | int (i:Int):TyOf K H (.int i) (.type "int")
 | str (x:Str):TyOf K H (.str x) (.type "str")
 | flt (x:UInt64):TyOf K H (.flt x) (.type "float")
 | lst {a:Addr} {xs:List V} (e:H a=some (.lst xs)):TyOf K H (.ref a) (.type "list")
 | frz {a:Addr} {o:Obj} {xs:List V} (e:H a=some (.frz o (.lst xs))):TyOf K H (.ref a) (.type "list")
 | tup {a:Addr} {xs:List V} (e:H a=some (.tup xs)):TyOf K H (.ref a) (.type "tuple")
 | dK {a:Addr} {kvs:List (Key×V)} (e:H a=some (.dK kvs)):TyOf K H (.ref a) (.type "dict")
 | dT {a:Addr} {kvs:List (List Key×V)} (e:H a=some (.dT kvs)):TyOf K H (.ref a) (.type "dict")
 | ins {a C dx:Addr} {fs:List (Str×V)} (e:H a=some (.ins C dx fs)) (cl:Cls K C) (ha:PySem.W.findIn K (.ref C) "__class__" = some (some (.builtin "object.__class__")))
   (hn:PySem.W.specialIn K (.builtin "object.__class__") "__get__" = some (some (.builtin "getset_descriptor.__get__"))) (htk:PySem.W.takesIn K (.builtin "object.__class__")=some true)
   (hm:PySem.W.mroIn K C (.type "object")=some true):TyOf K H (.ref a) (.ref C)
end
end L2
namespace L2
open PySem PySem.Spec PyProof.Rows
structure Room (k:Nat) (A:Around):Prop where
 hd:A.handled=none
 dp:A.depth+3*k+5<recursionLimit
 un:A.units+16*k+200<cLine
theorem Room.mono {j k:Nat} {A:Around} (r:Room k A) (h:j≤k):Room j A:=⟨r.hd,by have:=r.dp;omega,by have:=r.un;omega⟩
theorem Room.deeper {k:Nat} {A:Around} (r:Room (k+1) A) (env:Env):Room k (A.deeper env):=
 ⟨r.hd,by have:=r.dp;show A.depth+1+3*k+5<_;omega,by have:=r.un;show A.units+3+16*k+200<_;omega⟩
theorem Zdd {A:Around} {C:Addr} {us:List Value} {kw:List (Str×Value)}:(A.under (.builtin "type.__call__" ⟨.ref C::us,kw⟩)).depth=A.depth+1:=by
 first | rfl | simp[Around.under,Code.weight,Code.isCreation,Code.isGuard,Code.isCaller,Code.frames,Code.isFrame,guardIds]
theorem Zdc {A:Around} {C:Addr} {us:List Value} {kw:List (Str×Value)}:(A.under (.builtin "type.__call__" ⟨.ref C::us,kw⟩)).units=A.units+1:=by
 first | rfl | simp[Around.under,Code.cUnits,Code.frames,Code.isFrame]
theorem Room.make {k:Nat} {A:Around} (r:Room (k+1) A) (C:Addr) (us:List Value) (kw:List (Str×Value)):Room k (A.under (.builtin "type.__call__" ⟨.ref C::us,kw⟩)):=
 ⟨r.hd,by have:=r.dp;rw[Zdd];omega,by have:=r.un;rw[Zdc];omega⟩
theorem Room.depth {k:Nat} {A:Around} (r:Room k A):A.depth<recursionLimit:=by have:=r.dp;omega
theorem Room.units {k:Nat} {A:Around} (r:Room k A):A.units+64<cLine:=by have:=r.un;omega
noncomputable def tNil:TA:=fun _ H Q=>Q [] H
noncomputable def tCons (ta:TE) (tr:TA):TA:=fun σ H Q=>ta σ H fun x H1=>tr σ H1 fun xs H2=>Q (x::xs) H2
section
variable {X:Cx} {e:Expr} {es:List Expr} {te:TE} {t:TA} {pos:Pos}
theorem Z3:PA X [] tNil:=fun _ _ _ _ H Q I h=>Calls.spliced_nil ⟨[],H,I,.nil,h⟩
theorem Z0 (ha:PE X e te) (hr:PA X es t) (hs:starEach (e::es) X.env=(false,eval e X.env)::starEach es X.env:=by rfl):PA X (e::es) (tCons te t):=by
 intro pos pins s σ H Q I h
 rw[hs]
 show wpAny _ _ (spliced ((false,eval e X.env)::backTo pos (starEach es X.env))) _ _ s
 refine Calls.spliced_cons (thn (ha pins s σ H _ I h) fun u s1 ⟨x,H1,I1,r1,q1⟩=>?_)
 exact thn (hr pos pins s1 σ H1 _ I1 q1) fun us s2 ⟨xs,H2,I2,r2,q2⟩=>⟨x::xs,H2,I2,.cons r1 r2,q2⟩
def tTup (t:TA):TE:=fun σ H Q=>t σ H fun xs H1=>xs.length≤sizeLine∧∀ p,H1 p=none→Q (.ref p) (upd H1 p (.tup xs))
def tLst (t:TA):TE:=fun σ H Q=>t σ H fun xs H1=>xs.length≤sizeLine∧∀ p,H1 p=none→Q (.ref p) (upd H1 p (.lst xs))
theorem Z4s {x1} (h:PA X es t):PE X (.Tuple es x1 pos) (tTup t):=by
 intro pins s σ H Q I hq
 refine wpAny_Tuple_spliced (thn (h pos pins s σ H _ I hq) fun us s1 ⟨xs,H1,I1,r,z,q⟩=>⟨by rw[← r.length];exact z,?_⟩)
 have hf:H1 s1.heap.objs.size=none:=I1.hok.fresh (Nat.le_refl _)
 refine ⟨.ref s1.heap.objs.size,upd H1 s1.heap.objs.size (.tup xs),I1.laid (t':=s1.toks) (fun b u e=>Heap.get?_push_of_some _ e) (Nat.le_refl _) ?_,rfl,q _ hf⟩
 exact ⟨z,us,r,⟨_,Heap.get?_push_size _ rfl,rfl,_,rfl⟩⟩
theorem Zv (h:PA X es t):PE X (.List es pos) (tLst t):=by
 intro pins s σ H Q I hq
 refine wpAny_List_spliced (thn (h pos pins s σ H _ I hq) fun us s1 ⟨xs,H1,I1,r,z,q⟩=>⟨by rw[← r.length];exact z,?_⟩)
 have hf:H1 s1.heap.objs.size=none:=I1.hok.fresh (Nat.le_refl _)
 refine ⟨.ref s1.heap.objs.size,upd H1 s1.heap.objs.size (.lst xs),I1.laid (t':=s1.toks) (fun b u e=>Heap.get?_push_of_some _ e) (Nat.le_refl _) ?_,rfl,q _ hf⟩
 exact ⟨z,us,0,r,Heap.get?_push_size _ rfl⟩
end
abbrev Sp:=List V→Hp→VK→XK→Prop
abbrev CXT:=List Env→Hp→Shared→XK→Value→Shared→Prop
structure Env0 (P:Program) (w:World) (K:PySem.W.Frag) (mg:Str→Option Value) (base:Heap) (A:Around) (outer:List Env) (s:Shared) (H:Hp):Prop where
 frames:A.frames=some outer
 mod:Mod K mg base
 bs:∀ b o,base.get? b=some o→s.heap.get? b=some o∧H b=none
 bsz:base.objs.size≤s.heap.objs.size
 funs:s.heap.FunFrames base outer
 frf:∀ b∈frs outer,H b=none
 hok:HOk P w H s.heap
 bare:AllBare s.gens
def CE (outer:List Env) (P:Program) (w:World) (H:Hp) (s:Shared) (Q:VK) (u:Value) (s':Shared):Prop:=
 ∃ v H',s'.os=s.os∧AllBare s'.gens∧Un (frs outer) [] H H' s.heap s'.heap∧HOk P w H' s'.heap∧RelV v u∧Q v H'
def CR (CX:CXT) (outer:List Env) (P:Program) (w:World) (H:Hp) (s:Shared) (Q:VK) (E:XK) (r:Result) (s':Shared):Prop:=
 match r with
 | .ok (.ret u)=>CE outer P w H s Q u s'
 | .ok _=>False
 | .error e=>CX outer H s E e s'
structure FnOk (P:Program) (w:World) (K:PySem.W.Frag) (mg:Str→Option Value) (base:Heap) (CX:CXT) (k:Nat) (f:Addr) (fd:FuncData) (ps:List Str) (sp:Sp):Prop where
 len:∀ vs H Q E,sp vs H Q E→vs.length=ps.length
 run:∀ (A:Around) (outer:List Env) (s:Shared) (H:Hp) (args:Args) (us:List Value) (vs:List V) (Q:VK) (E:XK),Room k A→Env0 P w K mg base A outer s H→BindsTo s fd args (ps.zip us)→Vals vs us→sp vs H Q E →
  codeAny (model P w) A (.call (.ref f) args) (CR CX outer P w H s Q E) s
theorem Env0.make {P:Program} {w:World} {K:PySem.W.Frag} {mg:Str→Option Value} {base:Heap} {A:Around} {outer:List Env} {s:Shared} {H:Hp} (e:Env0 P w K mg base A outer s H) (C:Addr) (us:List Value) (kw:List (Str×Value)) :
  Env0 P w K mg base (A.under (.builtin "type.__call__" ⟨.ref C::us,kw⟩)) outer s H:=⟨by first | exact e.frames | (simpa [Around.under,Code.envs,Code.isFrame,pushEnvs] using e.frames),e.mod,e.bs,e.bsz,e.funs,e.frf,e.hok,e.bare⟩
section
variable {X:Cx} {pins:List (Addr×Obj)} {σ:St} {H:Hp} {s s':Shared}
theorem Inv.env0 (I:Inv X pins σ H s):Env0 X.prog X.w X.K X.mg X.base X.A X.stack s H:=
 ⟨I.ok.frames,I.ok.mod,I.bs,Nat.le_trans I.ok.bsz I.sz,I.stack,I.stkFree,I.hok,I.bare⟩
theorem Inv.after {Q:VK} {u:Value} (I:Inv X pins σ H s) (h:CE X.stack X.prog X.w H s Q u s'):EP X pins σ Q u s':=by
 obtain ⟨v,H',os,bare,un,hok,r,q⟩:=h
 obtain ⟨hh,g,d,t,os'⟩:=s'
 obtain rfl:os'=s.os:=os
 exact ⟨v,H',I.call (h':=hh) (g':=g) (d':=d) (t':=t) (ch:=[]) un hok bare (fun b z=>absurd z (by simp)),r,q⟩
end
noncomputable def tCall (sp:Sp) (dvs:List V) (E:XK) (t:TA):TE:=fun σ H Q=>t σ H fun vs H1=>sp (vs++dvs) H1 Q E
def tMeth (C:Addr) (m:Str) (sp:Sp) (dvs:List V) (E:XK) (ta:TE) (t:TA):TE:=fun σ H Q=>ta σ H fun x H1=>∃ a dx fs,x=.ref a∧H1 a=some (.ins C dx fs)∧fs.lookup m=none ∧
 t σ H1 fun vs H2=>sp (x::(vs++dvs)) H2 Q E
def tMake (C:Addr) (sp:Sp) (dvs:List V) (E:XK) (t:TA):TE:=fun σ H Q=>t σ H fun vs H1=>∀ x dx,H1 x=none→H1 dx=none→dx≠x →
 sp (.ref x::(vs++dvs)) (upd (upd H1 dx (.own x)) x (.ins C dx [])) (fun v H2=>v=.non∧Q (.ref x) H2) E
def Binds (K:PySem.W.Frag) (fd:FuncData) (ps:List Str) (ds:List Value):Prop:=
 ∀ (s:Shared) (us:List Value),K.In s.heap→(us++ds).length=ps.length→BindsTo s fd ⟨us,[]⟩ (ps.zip (us++ds))
theorem Binds.all {K:PySem.W.Frag} {fd:FuncData} {ps:List Str} (h:∀ us:List Value,us.length=ps.length→bindArgs fd ⟨us,[]⟩=pure (ps.zip us)):Binds K fd ps []:=fun s us _ hl=>by
 rw[List.append_nil] at hl ⊢
 exact .of_eq (h us hl)
def Passes (CX:CXT) (X:Cx) (E:XK):Prop:=∀ (pins:List (Addr×Obj)) (σ:St) (H:Hp) (s:Shared) (e:Value) (s':Shared),Inv X pins σ H s→CX X.stack H s E e s'→X.xe e s'
section
variable {X:Cx} {CX:CXT} {k:Nat} {f C:Addr} {fd:FuncData} {ps:List Str} {sp:Sp} {dvs:List V} {ds:List Value} {E:XK} {x m:Str} {p pos apos:Pos} {e o:Expr} {es:List Expr} {ta:TE} {t:TA}
theorem Zbi {pins:List (Addr×Obj)} {σ:St} {H:Hp} {s:Shared} {Q:VK} {us:List Value} {vs:List V} (F:FnOk X.prog X.w X.K X.mg X.base CX k f fd ps sp) (hr:Room k X.A) (hb:Binds X.K fd ps ds) (hd:Vals dvs ds) (hx:Passes CX X E)
  (I:Inv X pins σ H s) (r:Vals vs us) (h:sp (vs++dvs) H Q E):wpAny (model X.prog X.w) X.A (call (.ref f) us) (EP X pins σ Q) X.xe s:=by
 have r2:Vals (vs++dvs) (us++ds):=r.append hd
 have hl:(us++ds).length=ps.length:=by rw[← r2.length];exact F.len _ _ _ _ h
 refine wpAny_call (codeAny_mono (F.run X.A X.stack s H ⟨us,[]⟩ (us++ds) (vs++dvs) Q E hr I.env0 (hb s us I.kIn hl) r2 h) fun r s' hq=>?_)
 cases r with
 | error e=>exact hx pins σ H s e s' I hq
 | ok fl=>
  cases fl with
  | ret u=>exact I.after hq
  | next=>exact False.elim hq
  | brk=>exact False.elim hq
  | cont=>exact False.elim hq
theorem Zf (F:FnOk X.prog X.w X.K X.mg X.base CX k f fd ps sp) (hr:Room k X.A) (hg:Gl X x) (hm:X.mg x=some (.ref f)) (hk:PySem.W.keepIn X.K (.ref f)=true) (hb:Binds X.K fd ps ds) (hd:Vals dvs ds) (hx:Passes CX X E)
  (ha:PA X (e::es) t) (hdb:(x==("__debug__" : Str))=false:=by decide) (he:starEach (e::es) X.env=(false,eval e X.env)::starEach es X.env:=by rfl) (hpl:(backTo pos (starEach es X.env)).any (·.1)=false:=by rfl) :
  PE X (.Call (.Name x p) (e::es) [] pos) (tCall sp dvs E t):=by
 intro pins s σ H Q I h
 refine wpAny_Call_Name_kw (Z1q I hg hm ?_ hdb)
 refine PySem.W.callWith_K (h₀:=X.base) I.ok.mod.kin hk (thn (ha pos pins s σ H _ I h) fun us s1 ⟨vs,H1,I1,r,q⟩=>⟨I1.kIn,?_⟩) he hpl
 exact Zbi F hr hb hd hx I1 r q
theorem Yf {pl:Sem Bool} (he:PE X o ta) (c:Cls X.K C) (hm:Meth X.K C m f) (F:FnOk X.prog X.w X.K X.mg X.base CX k f fd ps sp) (hr:Room k X.A) (hb:Binds X.K fd ps ds) (hd:Vals dvs ds) (hx:Passes CX X E) (ha:PA X (e::es) t)
  (hst:starEach (e::es) X.env=(false,eval e X.env)::starEach es X.env:=by rfl) (hpl:(backTo pos (starEach es X.env)).any (·.1)=false:=by rfl)
  (ht:eval (.Call (.Attribute o m apos) (e::es) [] pos) X.env=(do
   let ov ← eval o X.env
   standAt apos.atName
   let (f,first) ← holding [ov] (getMethod ov m pl)
   callWith pos f first (backTo pos (starEach (e::es) X.env)) (backToKw pos (keywordEach [] X.env))):=by rfl) :
  PE X (.Call (.Attribute o m apos) (e::es) [] pos) (tMeth C m sp dvs E ta t):=by
 intro pins s σ H Q I h
 refine PySem.W.methodCall_KW (pl:=pl) (thn (he pins s σ H _ I h) fun u s1 ⟨x,H1,I1,rx,a,dx,fs,ex,ea,l,q⟩=>?_) ht
 subst ex
 obtain rfl:u=Value.ref a:=rx
 refine Z30 I1 ea c hm l ?_
 refine PySem.W.callWith_K (first:=[.ref a]) (h₀:=X.base) I.ok.mod.kin hm.kp (thn (ha pos pins s1 σ H1 _ I1 q) fun us s2 ⟨vs,H2,I2,r,q2⟩=>⟨I2.kIn,?_⟩) hst hpl
 exact Zbi (us:=.ref a::us) (vs:=.ref a::vs) F hr hb hd hx I2 (.cons rfl r) q2
theorem Jq {pl:Sem Bool} (he:PE X o ta) (c:Cls X.K C) (hm:Meth X.K C m f) (F:FnOk X.prog X.w X.K X.mg X.base CX k f fd ps sp) (hr:Room k X.A) (hb:Binds X.K fd ps ds) (hd:Vals dvs ds) (hx:Passes CX X E)
  (ht:eval (.Call (.Attribute o m apos) [] [] pos) X.env=(do
   let ov ← eval o X.env
   standAt apos.atName
   let (f,first) ← holding [ov] (getMethod ov m pl)
   callWith pos f first (backTo pos (starEach [] X.env)) (backToKw pos (keywordEach [] X.env))):=by rfl) :
  PE X (.Call (.Attribute o m apos) [] [] pos) (tMeth C m sp dvs E ta tNil):=by
 intro pins s σ H Q I h
 refine PySem.W.methodCall_KW (pl:=pl) (thn (he pins s σ H _ I h) fun u s1 ⟨x,H1,I1,rx,a,dx,fs,ex,ea,l,q⟩=>?_) ht
 subst ex
 obtain rfl:u=Value.ref a:=rx
 refine Z30 I1 ea c hm l ?_
 exact PySem.W.callWith_K0 (first:=[.ref a]) I1.kIn hm.kp (Zbi (us:=[.ref a]) (vs:=[.ref a]) F hr hb hd hx I1 (.cons rfl .nil) q)
structure Mk (K:PySem.W.Frag) (C f:Addr):Prop where
 makes:PySem.W.makesIn K C=true
 init:PySem.W.findIn K (.ref C) "__init__" = some (some (.ref f))
 fn:PySem.W.isFn K (.ref f)=true
 kp:PySem.W.keepIn K (.ref C)=true
theorem Zbh {pins:List (Addr×Obj)} {σ:St} {H:Hp} {s:Shared} {Q:VK} {us:List Value} {vs:List V} (M:Mk X.K C f) (F:FnOk X.prog X.w X.K X.mg X.base CX k f fd ps sp) (hr:Room (k+1) X.A) (hb:Binds X.K fd ps ds) (hd:Vals dvs ds)
  (hx:Passes CX X E) (I:Inv X pins σ H s) (r:Vals vs us)
  (h:∀ x dx,H x=none→H dx=none→dx≠x→sp (.ref x::(vs++dvs)) (upd (upd H dx (.own x)) x (.ins C dx [])) (fun v H2=>v=.non∧Q (.ref x) H2) E) :
  wpAny (model X.prog X.w) X.A (call (.ref C) us) (EP X pins σ Q) X.xe s:=by
 have hq:=h (s.heap.objs.size+1) s.heap.objs.size (I.hok.fresh (Nat.le_succ _)) (I.hok.fresh (Nat.le_refl _)) (Nat.ne_of_lt (Nat.lt_succ_self _))
 have I2:=Inv.made (C:=C) I
 have r2:Vals (V.ref (s.heap.objs.size+1)::(vs++dvs)) (Value.ref (s.heap.objs.size+1)::(us++ds)):=.cons rfl (r.append hd)
 have hl:(Value.ref (s.heap.objs.size+1)::us++ds).length=ps.length:=by
  have e:=r2.length
  rw[F.len _ _ _ _ hq] at e
  exact e.symm
 refine wpAny_call (Zgz (f:=f) I.kIn M.makes M.init (beq_iff_eq.mp M.fn) (codeAny_mono (F.run _ X.stack _ _ ⟨Value.ref (s.heap.objs.size+1)::us,[]⟩ (Value.ref (s.heap.objs.size+1)::(us++ds)) _ _ E (hr.make C us [])
  (I2.env0.make C us []) (hb _ (Value.ref (s.heap.objs.size+1)::us) I2.kIn hl) r2 hq) fun r s' hq'=>?_))
 cases r with
 | error e=>exact hx pins σ _ _ e s' I2 hq'
 | ok fl=>
  cases fl with
  | ret u=>
   obtain ⟨v,H',I3,rv,ev,q3⟩:=I2.after hq'
   subst ev
   exact ⟨rv,⟨V.ref (s.heap.objs.size+1),H',I3,rfl,q3⟩⟩
  | next=>exact False.elim hq'
  | brk=>exact False.elim hq'
  | cont=>exact False.elim hq'
theorem Zez (M:Mk X.K C f) (F:FnOk X.prog X.w X.K X.mg X.base CX k f fd ps sp) (hr:Room (k+1) X.A) (hg:Gl X x) (hm:X.mg x=some (.ref C)) (hb:Binds X.K fd ps ds) (hd:Vals dvs ds) (hx:Passes CX X E)
  (ha:PA X (e::es) t) (hdb:(x==("__debug__" : Str))=false:=by decide) (he:starEach (e::es) X.env=(false,eval e X.env)::starEach es X.env:=by rfl) (hpl:(backTo pos (starEach es X.env)).any (·.1)=false:=by rfl) :
  PE X (.Call (.Name x p) (e::es) [] pos) (tMake C sp dvs E t):=by
 intro pins s σ H Q I h
 refine wpAny_Call_Name_kw (Z1q I hg hm ?_ hdb)
 refine PySem.W.callWith_K (h₀:=X.base) I.ok.mod.kin M.kp (thn (ha pos pins s σ H _ I h) fun us s1 ⟨vs,H1,I1,r,q⟩=>⟨I1.kIn,?_⟩) he hpl
 exact Zbh M F hr hb hd hx I1 r q
theorem Zgt (M:Mk X.K C f) (F:FnOk X.prog X.w X.K X.mg X.base CX k f fd ps sp) (hr:Room (k+1) X.A) (hg:Gl X x) (hm:X.mg x=some (.ref C)) (hb:Binds X.K fd ps ds) (hd:Vals dvs ds) (hx:Passes CX X E)
  (hdb:(x==("__debug__" : Str))=false:=by decide):PE X (.Call (.Name x p) [] [] pos) (tMake C sp dvs E tNil):=by
 intro pins s σ H Q I h
 refine wpAny_Call_Name_kw (Z1q I hg hm ?_ hdb)
 exact PySem.W.callWith_K0 I.kIn M.kp (Zbh (us:=[]) M F hr hb hd hx I .nil h)
end
def PK (X:Cx) (kws:List Keyword) (t:TA):Prop:=
 ∀ (pos:Pos) (pins:List (Addr×Obj)) (s:Shared) (σ:St) (H:Hp) (Q:List V→Hp→Prop),Inv X pins σ H s→t σ H Q→wpAny (model X.prog X.w) X.A (evalAll ((backToKw pos (keywordEach kws X.env)).map (·.2))) (AP X pins σ Q) X.xe s
section
variable {X:Cx} {CX:CXT} {k:Nat} {f C:Addr} {fd:FuncData} {ps ks:List Str} {sp:Sp} {E:XK} {x m:Str} {p pos apos kpos:Pos} {e o:Expr} {es:List Expr} {kws:List Keyword} {te ta:TE} {t tk:TA} {nm:Option Str}
theorem pk_nil:PK X [] tNil:=fun _ _ _ _ H Q I h=>wpAny_evalAll_nil ⟨[],H,I,.nil,h⟩
theorem pk_cons (ha:PE X e te) (hr:PK X kws t):PK X (⟨nm,e,kpos⟩::kws) (tCons te t):=by
 intro pos pins s σ H Q I h
 show wpAny _ _ (evalAll ((do let v ← eval e X.env;standAt pos;pure v)::(backToKw pos (keywordEach kws X.env)).map (·.2))) _ _ s
 refine wpAny_evalAll_cons (wpAny_bind (thn (ha pins s σ H _ I h) fun u s1 ⟨x,H1,I1,r1,q1⟩=>wpAny_bind (wpAny_standAt (wpAny_pure ?_))))
 exact thn (hr pos pins s1 σ H1 _ I1 q1) fun us s2 ⟨xs,H2,I2,r2,q2⟩=>⟨x::xs,H2,I2,.cons r1 r2,q2⟩
structure KBinds (K:PySem.W.Frag) (fd:FuncData) (ps ks:List Str) (g:List Value→List Value→List Value) (gV:List V→List V→List V):Prop where
 to:∀ (s:Shared) (us ws:List Value),K.In s.heap→(g us ws).length=ps.length→BindsTo s fd ⟨us,ks.zip ws⟩ (ps.zip (g us ws))
 rel:∀ {vs:List V} {us:List Value} {zs:List V} {ws:List Value},Vals vs us→Vals zs ws→Vals (gV vs zs) (g us ws)
variable {g:List Value→List Value→List Value} {gV:List V→List V→List V}
end
structure Zb (N P:List Str) (sc:Scope):Prop where
 kind:sc.kind=.function
 co:sc.isCoroutine=false
 gen:sc.isGenerator=false
 nd:N.Nodup
 pre:N.take P.length=P
 par:∀ x∈P,sc.names.lookup x=some .local∨sc.names.lookup x=some .cell
 nofree:∀ y∈sc.names,y.2≠.free
theorem Z9t {kindOf:Str→Option NameKind} {x:Str}:∀ {binds:List (Str×Value)} {m:Str→Option Value},(∀ v,(x,v) ∉ binds)→bindL kindOf binds m x=m x
 | [],_,_=>rfl
 | (n,v)::r,m,h=>by
  unfold bindL
  rw[Z9t fun w hw=>h w (List.mem_cons_of_mem _ hw)]
  split
  ·have:x≠n:=by rintro rfl;exact h v List.mem_cons_self
   simp[this]
  ·rfl
theorem Z9v {kindOf:Str→Option NameKind} {x:Str}:∀ {binds:List (Str×Value)} {m:Str→Option Value},(∀ v,(x,v) ∉ binds)→bindC kindOf binds m x=m x
 | [],_,_=>rfl
 | (n,v)::r,m,h=>by
  unfold bindC
  rw[Z9v fun w hw=>h w (List.mem_cons_of_mem _ hw)]
  split
  ·rfl
  ·have:x≠n:=by rintro rfl;exact h v List.mem_cons_self
   simp[this]
theorem Z9u {kindOf:Str→Option NameKind} {x:Str} {v:Value}:∀ {P:List Str} {vs:List Value} {i:Nat} {m:Str→Option Value},P.Nodup→P[i]?=some x→vs[i]?=some v→kindOf x=some .local →
  bindL kindOf (P.zip vs) m x=some v
 | [],_,_,_,_,h,_,_=>by simp at h
 | _::_,[],_,_,_,_,h,_=>by simp at h
 | p::P,w::vs,0,m,nd,h1,h2,hk=>by
  simp at h1 h2;subst h1;subst h2
  show bindL kindOf ((p,w)::P.zip vs) m p=_
  unfold bindL
  rw[Z9t fun v hv=>(List.nodup_cons.mp nd).1 (List.of_mem_zip hv).1,if_pos hk]
  simp
 | p::P,w::vs,i+1,m,nd,h1,h2,hk=>by
  show bindL kindOf ((p,w)::P.zip vs) m x=_
  unfold bindL
  exact Z9u (i:=i) (List.nodup_cons.mp nd).2 (by simpa using h1) (by simpa using h2) hk
theorem Z9w {kindOf:Str→Option NameKind} {x:Str} {v:Value}:∀ {P:List Str} {vs:List Value} {i:Nat} {m:Str→Option Value},P.Nodup→P[i]?=some x→vs[i]?=some v→kindOf x≠some .local →
  bindC kindOf (P.zip vs) m x=some v
 | [],_,_,_,_,h,_,_=>by simp at h
 | _::_,[],_,_,_,_,h,_=>by simp at h
 | p::P,w::vs,0,m,nd,h1,h2,hk=>by
  simp at h1 h2;subst h1;subst h2
  show bindC kindOf ((p,w)::P.zip vs) m p=_
  unfold bindC
  rw[Z9v fun v hv=>(List.nodup_cons.mp nd).1 (List.of_mem_zip hv).1,if_neg hk]
  simp
 | p::P,w::vs,i+1,m,nd,h1,h2,hk=>by
  show bindC kindOf ((p,w)::P.zip vs) m x=_
  unfold bindC
  exact Z9w (i:=i) (List.nodup_cons.mp nd).2 (by simpa using h1) (by simpa using h2) hk
noncomputable def start (N:List Str) (vs:List V):St:=vs.map some++List.replicate (N.length-vs.length) none
noncomputable def cxOf (CX:CXT) (P:Program) (w:World) (K:PySem.W.Frag) (mg:Str→Option Value) (base:Heap) (N:List Str) (qual:Str) (scope:Scope) (f:Addr) (cd:Value) (A:Around) (outer:List Env) (s:Shared) (H:Hp) (E:XK):Cx where
 prog:=P
 w:=w
 K:=K
 mg:=mg
 base:=base
 A:=A.deeper (envOfC qual scope s.heap.objs.size f cd)
 N:=N
 s_0:=s
 H_0:=H
 env:=envOfC qual scope s.heap.objs.size f cd
 outer:=outer
 stack:=envOfC qual scope s.heap.objs.size f cd::outer
 ex:=[]
 calm:=true
 fn:=fun _=>true
 pn:=[]
 xe:=fun e s'=>wpAny (model P w) (A.deeper (envOfC qual scope s.heap.objs.size f cd)) (leaving (envOfC qual scope s.heap.objs.size f cd) e) (fun _ s''=>CX outer H s E e s'') (fun e' s''=>CX outer H s E e' s'') s'
theorem Zcd {sc:Scope} {n:Nat} {x:Str} (h:sc.names.lookup x=some .cell):∃ c,(cellsFrom n sc.names []).lookup x=some c:=by
 have q:=PySem.W.cellsFrom_some sc.names n [] (.inl h)
 exact Option.isSome_iff_exists.mp q
theorem Zfl {CX:CXT} {P:Program} {w:World} {K:PySem.W.Frag} {mg:Str→Option Value} {base:Heap} {N ps:List Str} {qual:Str} {scope:Scope} {f:Addr} {cd:Value} {A:Around} {outer:List Env} {s s1:Shared} {H:Hp} {E:XK} {us:List Value} {vs:List V}
  (S:Zb N ps scope) (hd:A.handled=none) (e0:Env0 P w K mg base A outer s H) (hl:vs.length=ps.length) (r:Vals vs us)
  (x:InCallC s s.heap.objs.size (bindL (envOfC qual scope s.heap.objs.size f cd).kindOf (ps.zip us) fun _=>none) (cellsFrom (s.heap.objs.size+1) scope.names []) (bindC (envOfC qual scope s.heap.objs.size f cd).kindOf (ps.zip us) fun _=>none) s1) :
  Inv (cxOf CX P w K mg base N qual scope f cd A outer s H E) [] (start N vs) H s1:=by
 have hpl:ps.length≤N.length:=by have:=congrArg List.length S.pre;rw[List.length_take] at this;omega
 obtain ⟨h1,tk,rfl,hk⟩:=x.done
 have noA:∀ b:Addr,b ∉ (cxOf CX P w K mg base N qual scope f cd A outer s H E).ex:=fun b z=>absurd (show b∈([]:List Addr) from z) (by simp)
 refine ⟨⟨e0.mod,S.kind,rfl,rfl,Nat.le_refl _,fun y z c h1 h2=>?_,fun y hy=>?_,fun y c _ h=>?_,fun _=>hd,Around.frames_deeper e0.frames,.inr ⟨rfl,rfl⟩,fun b z=>absurd z (noA b),e0.bs,e0.bsz,fun b _ _=>noA b,fun b z=>absurd z (noA b),e0.funs,e0.frf⟩,
  rfl,e0.bare,Un.kept hk,⟨_,x.toInCall.ns,fun i y v h1 h2 h3=>?_⟩,fun y c h=>⟨_,x.cell y c h⟩,e0.hok.fresh (Nat.le_refl _),fun y c h=>?_,fun p hp=>absurd (show p∈([]:List (Addr×Obj)) from hp) (by simp),e0.hok.kept hk,?_⟩
 ·exact name_of_addr x.apart (PySem.mem_of_lookup h1) (PySem.mem_of_lookup h2)
 ·have hy:scope.names.lookup y=some .cell∨scope.names.lookup y=some .free:=hy
  rcases hy with hy | hy
  ·exact Zcd hy
  ·exact absurd rfl (S.nofree _ (PySem.mem_of_lookup hy))
 ·exact Nat.le_of_lt (x.above y c (PySem.mem_of_lookup h))
 ·have hi:i<vs.length:=by
   unfold start at h2
   by_cases hi:i<vs.length
   ·exact hi
   ·rw[List.getElem?_append_right (by simpa using hi)] at h2
    rw[List.getElem?_replicate] at h2
    split at h2 <;> cases h2
  have ha:vs[i]?=some v:=by
   unfold start at h2
   rw[List.getElem?_append_left (by simpa using hi),List.getElem?_map] at h2
   cases e:vs[i]? with
   | none=>rw[e] at h2;cases h2
   | some a=>rw[e] at h2;cases h2;rfl
  obtain ⟨u,hu,rv⟩:=r.get ha
  have hp:ps[i]?=some y:=by
   rw[← S.pre,List.getElem?_take_of_lt (by omega)];exact h1
  have ndP:ps.Nodup:=by rw[← S.pre];exact S.nd.sublist (List.take_sublist _ _)
  refine ⟨u,rv,?_⟩
  rcases S.par y (List.mem_of_getElem? hp) with k | k
  ·exact .inl ⟨k,Z9u ndP hp hu k⟩
  ·obtain ⟨c,e⟩:=Zcd (n:=s.heap.objs.size+1) k
   refine .inr ⟨.inl k,c,e,?_⟩
   have q:=x.cell y c e
   rw[Z9w ndP hp hu (by show scope.names.lookup y≠_;rw[k];decide)] at q
   exact q
 ·exact e0.hok.fresh (Nat.le_of_lt (x.above y c (PySem.mem_of_lookup h)))
 ·unfold start
  show _=N.length
  rw[List.length_append,List.length_map,List.length_replicate]
  omega
theorem fn_of {CX:CXT} {P:Program} {w:World} {K:PySem.W.Frag} {mg:Str→Option Value} {base:Heap} {k:Nat} {f:Addr} {name qual:Str} {params:Arguments} {body:List Stmt} {scope:Scope} {dV kV doc pm cdv ct oc:Value} {an od:Option Addr}
  {osl:Array (Option Value)} {N ps:List Str} {sp:Sp} (lk:K.lookup f=some ⟨oc,od,.func (PySem.W.fnOf name qual params body scope dV kV doc pm an cdv ct),osl⟩) (hcd:PySem.W.codeIn K cdv qual=true) (S:Zb N ps scope)
  (len:∀ vs H Q E,sp vs H Q E→vs.length=ps.length)
  (hbody:∀ (A:Around) (outer:List Env) (s:Shared) (H:Hp) (vs:List V) (Q:VK) (E:XK),Room k (A.deeper (envOfC qual scope s.heap.objs.size f cdv))→sp vs H Q E →
   ∃ t,PSs (cxOf CX P w K mg base N qual scope f cdv A outer s H E) body t∧t { nx:=fun _ H'=>Q .non H',rt:=Q } (start N vs) H) :
  FnOk P w K mg base CX (k+1) f (PySem.W.fnOf name qual params body scope dV kV doc pm an cdv ct) ps sp:=by
 refine ⟨len,fun A outer s H args us vs Q E hr e0 hb r hsp=>?_⟩
 have hl:=len _ _ _ _ hsp
 have KX:K.In s.heap:=e0.mod.kin.keeps fun b o e=>(e0.bs b o e).1
 have lim:s.heap.NoLimit:=e0.mod.nolimit.keeps fun b o e=>(e0.bs b o e).1
 have hkind:∀ y∈ps.zip us,scope.names.lookup y.1=some .local∨(scope.names.lookup y.1=some .cell∧((cellsFrom (s.heap.objs.size+1) scope.names []).lookup y.1).isSome=true):=fun ⟨n,v⟩ hy=>by
  rcases S.par n (List.of_mem_zip hy).1 with q | q
  ·exact .inl q
  ·exact .inr ⟨q,PySem.W.cellsFrom_some _ _ _ (.inl q)⟩
 refine codeAny_call_function hr.depth (KX _ _ lk) rfl S.co S.gen rfl (PySem.W.codeRec_of KX hcd) (hb _ _ _ _ ?_)
 refine wpAny_newFunctionEnv_cells S.kind hkind fun env he s1 x=>?_
 subst he
 refine ⟨lim.keeps x.toInCall.keep,codeAny_func ?_⟩
 obtain ⟨t,ht,hq⟩:=hbody A outer s H vs Q E (hr.deeper _) hsp
 have I:Inv (cxOf CX P w K mg base N qual scope f cdv A outer s H E) [] (start N vs) H s1:=Zfl S hr.hd e0 hl r x
 refine wpAny_mono (ht [] s1 (start N vs) H _ I hq) (fun fl s' hs=>?_) fun e s' hs=>hs
 have fin:∀ {σ':St} {H':Hp} {v:V} {u:Value},Inv (cxOf CX P w K mg base N qual scope f cdv A outer s H E) [] σ' H' s'→RelV v u→Q v H'→CE outer P w H s Q u s':=
  fun {σ' H' v u} J rv q=>⟨v,H',J.os,J.bare,J.base,J.hok,rv,q⟩
 cases fl with
 | ret u=>
  obtain ⟨v,σ',H',J,rv,q⟩:=hs
  exact fin J rv q
 | next=>
  obtain ⟨σ',H',J,q⟩:=hs
  exact fin (v:=V.non) (u:=Value.none) J rfl q
 | brk=>
  obtain ⟨_,_,_,q⟩:=hs
  exact False.elim q
 | cont=>
  obtain ⟨_,_,_,q⟩:=hs
  exact False.elim q
end L2
namespace L2
open PySem PySem.Spec PyProof.Rows
section
variable {X:Cx} {x:Str} {p pos:Pos} {e:Expr} {es:List Expr} {t:TA} {id T:String} {r:List V→Hp→VK→Prop}
def tCB (r:List V→Hp→VK→Prop) (t:TA):TE:=fun σ H Q=>t σ H fun vs H1=>r vs H1 Q
theorem Zu (hc:CallR X (.builtin id) r) (hg:Gl X x) (hm:X.mg x=none) (hv:bootBuiltins x=some (.builtin id)) (ha:PA X (e::es) t) (hn:x ≠ "__name__" := by decide) (hdb:(x==("__debug__" : Str))=false:=by decide)
  (he:starEach (e::es) X.env=(false,eval e X.env)::starEach es X.env:=by rfl) (hpl:(backTo pos (starEach es X.env)).any (·.1)=false:=by rfl):PE X (.Call (.Name x p) (e::es) [] pos) (tCB r t):=by
 intro pins s σ H Q I h
 refine wpAny_Call_Name_kw (Z58 I hg hm hv ?_ hn hdb)
 exact PyProof.Rows.callWith_builtin1 (thn (ha pos pins s σ H _ I h) fun us s1 ⟨vs,H1,I1,r1,q1⟩=>hc pins s1 σ H1 vs us Q I1 r1 q1) he hpl
theorem Z06 (hc:CallR X (.type T) r) (hg:Gl X x) (hm:X.mg x=none) (hv:bootBuiltins x=some (.type T)) (ha:PA X (e::es) t) (hn:x ≠ "__name__" := by decide) (hdb:(x==("__debug__" : Str))=false:=by decide)
  (he:starEach (e::es) X.env=(false,eval e X.env)::starEach es X.env:=by rfl) (hpl:(backTo pos (starEach es X.env)).any (·.1)=false:=by rfl):PE X (.Call (.Name x p) (e::es) [] pos) (tCB r t):=by
 intro pins s σ H Q I h
 refine wpAny_Call_Name_kw (Z58 I hg hm hv ?_ hn hdb)
 exact PyProof.Rows.callWith_type1 (thn (ha pos pins s σ H _ I h) fun us s1 ⟨vs,H1,I1,r1,q1⟩=>hc pins s1 σ H1 vs us Q I1 r1 q1) he hpl
end
end L2
namespace HT
open PySem PyProof.Rows
noncomputable def lexLt:List Int→List Int→Bool
 | [],[]=>false
 | [],_::_=>true
 | _::_,[]=>false
 | x::xs,y::ys=>if x=y then lexLt xs ys else decide (x<y)
theorem Uy (x y:Int) (xs ys:List Int):lexLt (x::xs) (y::ys)=if x=y then lexLt xs ys else decide (x<y):=rfl
theorem Z8j:lexLt [] []=false:=rfl
theorem Z6a (y:Int) (ys:List Int):lexLt [] (y::ys)=true:=rfl
theorem Z6b (x:Int) (xs:List Int):lexLt (x::xs) []=false:=rfl
theorem Zc9 (A:Around) (s:Shared) (a:Int) (t:Tok) (c:Int) (u:Tok):∃ e,SeqAt.EqAt A s (.int a t) (.int c u) e∧(e=true↔a=c):=
 ⟨(a==c),SeqAt.EqAt.int_int a t c u,by simp⟩
theorem Zbj (A:Around) (s:Shared) (a:Int) (t:Tok) (c:Int) (u:Tok) (prog:Program) (w:World) (E:Value→Shared→Prop) (Q:Value→Shared→Prop) (h:Q (.bool (decide (a<c))) s) :
  wpAny (model prog w) A (richCompare .Lt (.int a t) (.int c u)) Q E s:=
 (PyProof.Rows.lt_int h:wpAny (model prog w) A (compareOp .Lt (.int a t) (.int c u)) Q E s)
section
open PySem.SeqAt
open PySem.AutoSeq1 (wpAny_loadPart')
open PySem.MeetsSeq PySem.MeetsSeq2 PySem.MeetsSeq3
theorem Z7j (l b:Addr) (items items2:Array Value) (n n2:Nat) (dd dd2:Option Addr) (sl sl2:Array (Option Value)) (ns ms:List Int) (hi:IntsAre items.toList ns) (hj:IntsAre items2.toList ms) :
  Meets (Builtin.«tuple.__lt__» ⟨[.ref l,.ref b],[]⟩)
   (fun _ R s=>s.heap.get? l=some { cls:=.type "tuple",dict:=dd,data:=.seq items n,slots:=sl }∧s.heap.get? b=some { cls:=.type "tuple",dict:=dd2,data:=.seq items2 n2,slots:=sl2 } ∧
    R (.ok (.ret (.bool (lexLt ns ms)))) s):=
 .of_wp fun prog w A R s h=>by
  obtain ⟨hp,g,d,tk,os⟩:=s;obtain ⟨hl,hb,h⟩:=h
  have f2:=AutoSeq1.sub_tuple_tuple
  have z1:items.size=ns.length:=by rw[← hi.length];simp
  have z2:items2.size=ms.length:=by rw[← hj.length];simp
  wp_walk using wpAny_loadPart' hl,wpAny_loadPart' hb,wpAny_forIn_list _ (fun rest b s'=>b.1=none∧s'=⟨hp,g,d,tk,os⟩∧∃ (vs ws:List Value) (ns' ms':List Int),rest=vs.zip ws ∧
   IntsAre vs ns'∧IntsAre ws ms'∧ns'.length+items2.size=ms'.length+items.size∧R (.ok (.ret (.bool (lexLt ns' ms')))) ⟨hp,g,d,tk,os⟩) _
  case turn=>
   rintro ⟨y,x⟩ rest b s' ⟨hb',rfl,vs,ws,ns',ms',hz,hvi,hwi,hlen,hR⟩
   cases hvi with
   | nil=>rw[List.zip_nil_left] at hz;cases hz
   | cons a t hvi'=>
    cases hwi with
    | nil=>rw[List.zip_nil_right] at hz;cases hz
    | cons c u hwi'=>
     rw[List.zip_cons_cons] at hz
     injection hz with hyx hrest
     injection hyx with hy hx
     subst hy hx
     rw[Uy] at hR
     simp only[List.length_cons] at hlen
     obtain ⟨e,he,hiff⟩:=Zc9 A.in1 ⟨hp,g,d,tk,os⟩ a t c u
     refine wpAny_bind (he prog w _ _ ?_)
     cases e with
     | true=>
      rw[if_pos (hiff.mp rfl)] at hR
      wp_walk
      exact ⟨rfl,rfl,_,_,_,_,hrest,hvi',hwi',by omega,hR⟩
     | false=>
      rw[if_neg (fun q=>absurd (hiff.mpr q) Bool.false_ne_true)] at hR
      have hri:=Zbj A.in1 ⟨hp,g,d,tk,os⟩ a t c u prog w
      wp_walk using hri
      exact ⟨_,rfl,by simpa using hR⟩
  case fin=>
   rintro ⟨b1,b2⟩ s' ⟨hb',rfl,vs,ws,ns',ms',hz,hvi,hwi,hlen,hR⟩
   simp only at hb'
   subst hb'
   have hv:lexLt ns' ms'=decide (items.size<items2.size):=by
    cases hvi with
    | nil=>
     cases hwi with
     | nil=>
      simp only[List.length_nil] at hlen
      rw[Z8j]
      exact (decide_eq_false (by omega)).symm
     | cons c u hw=>
      simp only[List.length_nil,List.length_cons] at hlen
      rw[Z6a]
      exact (decide_eq_true (by omega)).symm
    | cons a t hv=>
     cases hwi with
     | nil=>
      simp only[List.length_nil,List.length_cons] at hlen
      rw[Z6b]
      exact (decide_eq_false (by omega)).symm
     | cons c u hw=>
      rw[List.zip_cons_cons] at hz
      cases hz
   rw[hv] at hR
   wp_walk
   exact ⟨_,rfl,by simpa [Builtin.Tuple.tupleCompareSizes] using hR⟩
  case h=>
   exact ⟨rfl,rfl,items.toList,items2.toList,ns,ms,rfl,hi,hj,by omega,h⟩
end
section
variable {prog:Program} {w:World} {A:Around} {E:Value→Shared→Prop} {s:Shared}
theorem Z71 {l b:Addr} {items items2:Array Value} {ns ms:List Int} {Q:Value→Shared→Prop} (hl:IsTup s.heap l items) (hb:IsTup s.heap b items2) (hi:IntsAre items.toList ns) (hj:IntsAre items2.toList ms)
  (hu:A.units<cLine) (h:Q (.bool (lexLt ns ms)) s):wpAny (model prog w) A (compareOp .Lt (.ref l) (.ref b)) Q E s:=by
 obtain ⟨⟨cls,dd,data,sl⟩,ho,hc,n,hd⟩:=id hl
 obtain ⟨⟨cls2,dd2,data2,sl2⟩,ho2,hc2,n2,hd2⟩:=id hb
 simp only at hc hd hc2 hd2
 subst hc hd hc2 hd2
 exact richCompare_meets_room (op:=.Lt) ⟨_,ho,rfl⟩ ⟨_,ho2,rfl⟩ PySem.F.slot_tuple_lt PySem.F.entry_tuple_lt (PySem.F.args_tuple_lt_2 _ _) (Z7j l b items items2 n n2 dd dd2 sl sl2 ns ms hi hj)
  ⟨ho,ho2,show Value.bool (lexLt ns ms)≠Value.notImplemented∧Q (.bool (lexLt ns ms)) s from ⟨(fun x=>nomatch x),h⟩⟩ hu
noncomputable def sIx (n d:Nat):Option Int→Nat
 | none=>d
 | some v=>if v<0 then (v+(n:Int)).toNat else min v.toNat n
theorem Z4m (n d k:Nat):sIx n d (some (k:Int))=min k n:=by
 show (if (k:Int)<0 then ((k:Int)+(n:Int)).toNat else min (k:Int).toNat n)=min k n
 rw[if_neg (by omega),Int.toNat_natCast]
theorem sIx_le (n d:Nat) (hd:d≤n) (o:Option Int):sIx n d o≤n:=by
 cases o with
 | none=>exact hd
 | some v=>
  show (if v<0 then (v+(n:Int)).toNat else min v.toNat n)≤n
  by_cases hv:v<0
  ·rw[if_pos hv];omega
  ·rw[if_neg hv];exact Nat.min_le_right _ _
theorem Zg5 (v:Int) (n d:Nat):(if v<0 then max (v+(n:Int)) 0 else min v (n:Int))=((sIx n d (some v):Nat):Int):=by
 show (if v<0 then max (v+(n:Int)) 0 else min v (n:Int))=(((if v<0 then (v+(n:Int)).toNat else min v.toNat n):Nat):Int)
 by_cases hv:v<0
 ·simp only[if_pos hv];omega
 ·simp only[if_neg hv];omega
theorem Zdy (lo hi:Option Int) (n:Nat):Builtin.Slice.sliceAdjust lo hi 1 (n:Int)=(((sIx n 0 lo:Nat):Int),((sIx n n hi:Nat):Int)):=by
 have h1:¬ ((1:Int)<0):=by omega
 unfold Builtin.Slice.sliceAdjust
 simp only[h1,if_false]
 refine Prod.ext ?_ ?_
 ·cases lo with
  | none=>rfl
  | some v=>exact Zg5 v n 0
 ·cases hi with
  | none=>rfl
  | some v=>exact Zg5 v n n
theorem Zd5 (i j:Nat):Builtin.Slice.slicePlaces (i:Int) (j:Int) 1=j-i:=by
 unfold Builtin.Slice.slicePlaces
 have h1:(1:Int)>0:=by omega
 simp only[h1,if_true,Int.ediv_one]
 split <;> omega
theorem Z6g {v:Value} {o:Option Int} {Q:Option Int→Shared→Prop} (p:IsPart v o) (h:Q o s):wpAny (model prog w) A (Builtin.Slice.slicePartIndex v) Q E s:=by
 cases p with
 | none=>exact slicePart_none h
 | int i t=>exact slicePart_int h
theorem Z3m {sl:Addr} {vl vu:Value} {lo hi:Option Int} {n:Nat} {Q:Int×Int×Nat→Shared→Prop} (hs:s.heap.IsSliceOf sl vl vu .none) (pl:IsPart vl lo) (pu:IsPart vu hi)
  (h:Q (((sIx n 0 lo:Nat):Int),1,sIx n n hi-sIx n 0 lo) s):wpAny (model prog w) A (Builtin.Slice.sliceApplied (.ref sl) (pure (n:Int))) Q E s:=by
 obtain ⟨os,hos,hcs,hds⟩:=id hs
 unfold Builtin.Slice.sliceApplied Builtin.Slice.sliceFields
 refine wpAny_bind (wpAny_bind (wpAny_field hos hds (x:=vl) rfl (wpAny_bind (wpAny_field hos hds (x:=vu) rfl (wpAny_bind (wpAny_field hos hds (x:=.none) rfl (wpAny_pure ?_)))))))
 refine wpAny_bind (slicePart_none ?_)
 show wpAny _ _ (if ((1:Int)==0)=true then _ else _) _ _ s
 rw[if_neg (by decide)]
 refine wpAny_bind (Z6g pl (wpAny_bind (Z6g pu (wpAny_bind (wpAny_pure ?_)))))
 show wpAny _ _ (match Builtin.Slice.sliceAdjust lo hi 1 (n:Int) with | (lo,hi)=>pure (lo,(1:Int),Builtin.Slice.slicePlaces lo hi 1)) _ _ s
 rw[Zdy lo hi n]
 show wpAny _ _ (pure (((sIx n 0 lo:Nat):Int),(1:Int),Builtin.Slice.slicePlaces ((sIx n 0 lo:Nat):Int) ((sIx n n hi:Nat):Int) 1)) _ _ s
 rw[Zd5]
 exact wpAny_pure h
theorem Zgq (xs:Array Value) (i k:Nat):((List.range k).filterMap fun (m:Nat)=>xs[((i:Int)+(m:Int)*1).toNat]?).toArray=((xs.toList.drop i).take k).toArray:=by
 have e:(fun (m:Nat)=>xs[((i:Int)+(m:Int)*1).toNat]?)=fun m=>xs[i+m]?:=by
  funext m
  have:((i:Int)+(m:Int)*1).toNat=i+m:=by omega
  rw[this]
 rw[e]
 have:=pick_run xs i k
 rw[List.filterMap_map] at this
 have e2:((fun x=>xs[x]?)∘fun x=>i+x)=fun m=>xs[i+m]?:=rfl
 rw[e2] at this
 rw[this]
theorem Z31 {t sl:Addr} {items:Array Value} {vl vu:Value} {lo hi:Option Int} {Q:Value→Shared→Prop} (ht:IsTup s.heap t items) (hs:s.heap.IsSliceOf sl vl vu .none) (pl:IsPart vl lo) (pu:IsPart vu hi)
  (hw:¬ (sIx items.size 0 lo=0∧sIx items.size items.size hi=items.size))
  (h:Q (.ref s.heap.objs.size) { s with heap:=s.heap.push { cls:=.type "tuple",data:=.seq ((items.toList.drop (sIx items.size 0 lo)).take (sIx items.size items.size hi-sIx items.size 0 lo)).toArray } })
  (hsz:items.size≤sizeLine):wpAny (model prog w) A (getItem (.ref t) (.ref sl)) Q E s:=by
 have htake:sizeOk (.seq ((items.toList.drop (sIx items.size 0 lo)).take (sIx items.size items.size hi-sIx items.size 0 lo)).toArray):=by
  show ((items.toList.drop (sIx items.size 0 lo)).take (sIx items.size items.size hi-sIx items.size 0 lo)).toArray.size≤sizeLine
  rw[List.size_toArray,List.length_take,List.length_drop,Array.length_toList]
  omega
 have hj:sIx items.size items.size hi≤items.size:=sIx_le _ _ (Nat.le_refl _) hi
 obtain ⟨os,hos,hcs,hds⟩:=id hs
 have hTs:s.TypeIs (.ref sl) "slice" := ⟨os,hos,hcs⟩
 unfold getItem
 try with_reducible refine wpAny_holding ?_
 first | refine wpAny_bind (wpAny_pure ?_) | skip
 refine wpAny_bind (wpAny_sequenceKey ht.typeIs (by decide) ?_)
 refine wpAny_bind (wpAny_callSpecial?_slot (name:=Str.ofString "__getitem__") ht.typeIs PyProof.Rows.slot_tuple_getitem
  (wpAny_call_entry PyProof.Rows.slot_tuple_getitem ht.typeIs entry_tuple_getitem ?_ (args_tuple_getitem _ _)))
 show wpAny _ _ (Builtin.Tuple.tupleItemsOf (.ref t) >>= _) _ _ s
 refine wpAny_bind (tupleItemsOf_ ht ?_)
 refine wpAny_bind (wpAny_typeOf hTs ?_)
 rw[if_pos (by decide)]
 refine wpAny_bind (Z3m hs pl pu ?_)
 have hno:¬ ((((sIx items.size 0 lo:Nat):Int)==0&&(1:Int)==1&&(sIx items.size items.size hi-sIx items.size 0 lo)==items.size)=true):=by
  intro q
  rw[Bool.and_eq_true,Bool.and_eq_true] at q
  have q1:((sIx items.size 0 lo:Nat):Int)=0:=eq_of_beq q.1.1
  have q2:sIx items.size items.size hi-sIx items.size 0 lo=items.size:=eq_of_beq q.2
  exact hw ⟨by omega,by omega⟩
 show wpAny _ _ (if (((sIx items.size 0 lo:Nat):Int)==0&&(1:Int)==1&&(sIx items.size items.size hi-sIx items.size 0 lo)==items.size)=true then _ else _) _ _ s
 rw[if_neg hno,Zgq]
 first
  | exact wpAny_bind (m:=Builtin.Tuple.tupleExact _) (wpAny_newObj_type (wpAny_pure ⟨_,rfl,wpAny_pure h⟩) htake)
  | exact wpAny_bind (m:=Builtin.Tuple.tupleExact _) (wpAny_newObj_type (wpAny_bind (wpAny_pure (wpAny_pure ⟨_,rfl,wpAny_pure h⟩))) htake)
  | exact wpAny_bind (wpAny_bind (m:=Builtin.Tuple.tupleExact _) (wpAny_newObj_type (wpAny_pure (wpAny_pure ⟨_,rfl,wpAny_pure h⟩)) htake))
  | exact wpAny_bind (wpAny_bind (m:=Builtin.Tuple.tupleExact _) (wpAny_newObj_type (wpAny_pure ⟨_,rfl,wpAny_pure h⟩) htake))
end
end HT
namespace L2
open PySem PySem.Spec PyProof.Rows
abbrev TO:=St→Hp→(Option Int→Hp→Prop)→Prop
def PO (X:Cx) (e:Option Expr) (t:TO):Prop:=
 ∀ (pins:List (Addr×Obj)) (s:Shared) (σ:St) (H:Hp) (Q:Option Int→Hp→Prop),Inv X pins σ H s→t σ H Q →
  wpAny (model X.prog X.w) X.A (evalPart e X.env) (fun u s'=>∃ o H',Inv X pins σ H' s'∧IsPart u o∧Q o H') X.xe s
noncomputable def tNoPart:TO:=fun _ H Q=>Q none H
noncomputable def tPart (t:TE):TO:=fun σ H Q=>t σ H fun x H1=>∃ i,x=.int i∧Q (some i) H1
section
variable {X:Cx} {e:Expr} {te:TE} {lo hi:Option Expr} {tl th:TO} {pos p2:Pos}
theorem Z85:PO X none tNoPart:=by
 intro pins s σ H Q I h
 rw[evalPart_none]
 exact wpAny_pure ⟨none,H,I,.none,h⟩
theorem Z05 (h:PE X e te):PO X (some e) (tPart te):=by
 intro pins s σ H Q I hw
 rw[evalPart_some]
 refine thn (h pins s σ H _ I hw) fun u s1 ⟨x,H1,I1,r1,q1⟩=>?_
 obtain ⟨i,rfl,q⟩:=q1
 obtain ⟨t,rfl⟩:=r1
 exact ⟨some i,H1,I1,.int i t,q⟩
def SlR (X:Cx) (r:V→Option Int→Option Int→Hp→VK→Prop):Prop:=
 ∀ (pins:List (Addr×Obj)) (s:Shared) (σ:St) (H:Hp) (x:V) (v vl vu:Value) (lo hi:Option Int) (sl:Addr) (Q:VK),Inv X pins σ H s→RelV x v→s.heap.IsSliceOf sl vl vu .none→IsPart vl lo→IsPart vu hi→r x lo hi H Q →
  ∃ T id,typeLookup (.type T) "__getitem__" = pure (some (.builtin id))∧s.TypeIs v T∧wpAny (model X.prog X.w) X.A (getItem v (.ref sl)) (EP X pins σ Q) X.xe s
def tSl (r:V→Option Int→Option Int→Hp→VK→Prop) (te:TE) (tl th:TO):TE:=fun σ H Q=>te σ H fun x H1=>tl σ H1 fun l H2=>th σ H2 fun u H3=>r x l u H3 Q
theorem Z0s {r:V→Option Int→Option Int→Hp→VK→Prop} (hr:SlR X r) (he:PE X e te) (hl:PO X lo tl) (hu:PO X hi th):PE X (.Subscript e (.Slice lo hi none p2) pos) (tSl r te tl th):=by
 intro pins s σ H Q I h
 refine Subscript_ (thn (he pins s σ H _ I h) fun v s1 ⟨x,H1,I1,r1,q1⟩=>?_)
 refine wpAny_Slice (thn (hl pins s1 σ H1 _ I1 q1) fun vl s2 ⟨l,H2,I2,pl,q2⟩=>thn (hu pins s2 σ H2 _ I2 q2) fun vu s3 ⟨u,H3,I3,pu,q3⟩=>?_)
 rw[evalPart_none]
 refine wpAny_pure ?_
 have I4:Inv X pins σ H3 { s3 with heap:=s3.heap.push { cls:=.type "slice",data:=.fields #[vl,vu,.none] } }:=I3.kept (t':=s3.toks) fun b ob q=>Heap.get?_push_of_some _ q
 obtain ⟨T,id,hT,ht,hg⟩:=hr pins { s3 with heap:=s3.heap.push { cls:=.type "slice",data:=.fields #[vl,vu,.none] } } σ H3 x v vl vu l u s3.heap.objs.size Q I4 r1 (Heap.IsSliceOf.new ..) pl pu q3
 show wpAny (model X.prog X.w) X.A (subscriptTail e (.Slice lo hi none p2) v (.ref s3.heap.objs.size)) (EP X pins σ Q) X.xe { s3 with heap:=s3.heap.push { cls:=.type "slice",data:=.fields #[vl,vu,.none] } }
 exact tail_any (ops:=[.ref s3.heap.objs.size,v]) ht hT hg (by with_unfolding_all rfl)
def cutV (xs:List V) (lo hi:Option Int):List V:=(xs.drop (HT.sIx xs.length 0 lo)).take (HT.sIx xs.length xs.length hi-HT.sIx xs.length 0 lo)
theorem Z5g (xs:List V) (lo hi:Option Int):(cutV xs lo hi).length≤xs.length:=by
 unfold cutV
 rw[List.length_take,List.length_drop]
 omega
def rSlT (K:PySem.W.Frag):V→Option Int→Option Int→Hp→VK→Prop:=fun x lo hi H Q=>∃ a xs,x=.ref a∧SqT K H a xs ∧
 ¬ (HT.sIx xs.length 0 lo=0∧HT.sIx xs.length xs.length hi=xs.length)∧∀ p,H p=none→Q (.ref p) (upd H p (.tup (cutV xs lo hi)))
theorem Zhj:SlR X (rSlT X.K):=by
 intro pins s σ H x v vl vu lo hi sl Q I rx hs pl pu h
 obtain ⟨a,xs,rfl,hx,hw,q⟩:=h
 cases rx
 obtain ⟨its,r,ht,hz⟩:=I.tuple hx
 have hlen:its.toArray.size=xs.length:=by rw[List.size_toArray];exact r.length.symm
 refine ⟨"tuple",_,PyProof.Rows.slot_tuple_getitem.lookup,ht.typeIs,?_⟩
 refine HT.Z31 ht hs pl pu (by rw[hlen];exact hw) ?_ (by rw[hlen];exact hz)
 rw[hlen]
 refine ⟨.ref s.heap.objs.size,_,I.laid (t':=s.toks) (o:=.tup (cutV xs lo hi)) (fun b ob q=>Heap.get?_push_of_some _ q) (Nat.le_refl _) ?_,rfl,q _ (I.hok.fresh (Nat.le_refl _))⟩
 exact ⟨Nat.le_trans (Z5g xs lo hi) hz,_,(r.drop (HT.sIx xs.length 0 lo)).take (HT.sIx xs.length xs.length hi-HT.sIx xs.length 0 lo),IsTup.new _ _⟩
end
end L2
namespace L2
open PySem PySem.Spec PyProof.Rows
noncomputable def ixN (n:Nat) (i:Int):Option Nat:=if 0≤i then (if i<n then some i.toNat else none) else if -(n:Int)≤i then some (i+n).toNat else none
def atI {α:Type} (xs:List α) (i:Int):Option α:=(ixN xs.length i).bind fun j=>xs[j]?
theorem Zfk {n:Nat} {i:Int} {j:Nat} (h:ixN n i=some j):seqIndex? i n=some j∧j<n∧-(n:Int)≤i∧i<n:=by
 unfold ixN at h
 by_cases h0:0≤i
 ·rw[if_pos h0] at h
  by_cases h1:i<n
  ·rw[if_pos h1] at h
   have e:i.toNat=j:=Option.some.inj h
   exact ⟨by rw[seqIndex_of h0 h1,e],by omega,by omega,h1⟩
  ·rw[if_neg h1] at h;cases h
 ·rw[if_neg h0] at h
  by_cases h1:-(n:Int)≤i
  ·rw[if_pos h1] at h
   have e:(i+n).toNat=j:=Option.some.inj h
   exact ⟨by rw[seqIndex_neg (by omega) h1,e],by omega,h1,by omega⟩
  ·rw[if_neg h1] at h;cases h
theorem Zg8 {α:Type} {xs:List α} {i:Int} {v:α} (h:atI xs i=some v):∃ j,seqIndex? i xs.length=some j∧xs[j]?=some v∧j<xs.length∧-(xs.length:Int)≤i∧i<xs.length:=by
 unfold atI at h
 cases e:ixN xs.length i with
 | none=>rw[e] at h;cases h
 | some j=>
  rw[e] at h
  obtain ⟨h1,h2,h3,h4⟩:=Zfk e
  exact ⟨j,h1,h,h2,h3,h4⟩
def PlainIx (b:Expr):Prop:=∀ o i,subscripted b false o i=operate [o,i] (getItem o i)
def IxR (X:Cx) (r:R2):Prop:=
 ∀ (value slice:Expr) (pins:List (Addr×Obj)) (s:Shared) (σ:St) (H:Hp) (x y:V) (v u:Value) (Q:VK),Inv X pins σ H s→RelV x v→RelV y u→r x y H Q →
  subscripted slice false v u=operate [v,u] (getItem v u)→wpAny (model X.prog X.w) X.A (subscriptTail value slice v u) (EP X pins σ Q) X.xe s
def MtR (X:Cx) (id:String) (r:V→List V→Hp→VK→Prop):Prop:=
 ∀ (pins:List (Addr×Obj)) (s:Shared) (σ:St) (H:Hp) (x:V) (xs:List V) (v:Value) (us:List Value) (Q:VK),Inv X pins σ H s→RelV x v→Vals xs us→r x xs H Q →
  wpAny (model X.prog X.w) X.A (call (.builtin id) (v::us)) (EP X pins σ Q) X.xe s
section
variable {X:Cx} {a b:Expr} {ta tb:TE} {pos:Pos}
theorem pe_ix {r:R2} (hr:IxR X r) (ha:PE X a ta) (hb:PE X b tb) (hs:PlainIx b):PE X (.Subscript a b pos) (tOp r ta tb):=by
 intro pins s σ H Q I h
 exact Subscript_ (binT ha hb I h fun v u s2 x y H2 I2 rx ry q=>hr a b pins s2 σ H2 x y v u Q I2 rx ry q (hs _ _))
def rIxL (K:PySem.W.Frag):R2:=fun x y H Q=>∃ p xs i v,x=.ref p∧y=.int i∧SqL K H p xs∧atI xs i=some v∧Q v H
def rIxT (K:PySem.W.Frag):R2:=fun x y H Q=>∃ p xs i v,x=.ref p∧y=.int i∧SqT K H p xs∧atI xs i=some v∧Q v H
theorem Zj:IxR X (rIxL X.K):=by
 intro value slice pins s σ H x y v u Q I rx ry h hs
 obtain ⟨p,xs,i,z,rfl,rfl,hq,he,q⟩:=h
 cases rx
 obtain ⟨t,rfl⟩:=ry
 obtain ⟨its,r,pl,hz⟩:=I.list hq
 obtain ⟨j,h1,h2,h3,h4,h5⟩:=Zg8 he
 obtain ⟨w,ew,rw'⟩:=r.get h2
 have hl:=r.length
 have hn:=line63
 have fin:EP X pins σ Q w s:=⟨z,H,I,rw',q⟩
 by_cases h0:0≤i
 ·have hj:i.toNat=j:=by
   rw[seqIndex_of h0 h5] at h1
   exact Option.some.inj h1
  exact item_listR pl.isList h0 (by omega) (by rw[hj];simpa using ew) fin hs
 ·have hj:(i+(its.toArray.size:Int)).toNat=j:=by
   rw[seqIndex_neg (by omega) h4] at h1
   rw[List.size_toArray,← hl]
   exact Option.some.inj h1
  exact subscriptTail_builtinR (x:=w) pl.isList.typeIs slot_list_getitem.lookup
   (wpAny_getItem_list_neg (Q:=fun r s'=>r=w∧EP X pins σ Q r s') pl.isList (by omega) (by rw[List.size_toArray] <;> omega) (by omega) (by rw[hj];simpa using ew) ⟨rfl,fin⟩) hs
theorem Yg:IxR X (rIxT X.K):=by
 intro value slice pins s σ H x y v u Q I rx ry h hs
 obtain ⟨p,xs,i,z,rfl,rfl,hq,he,q⟩:=h
 cases rx
 obtain ⟨t,rfl⟩:=ry
 obtain ⟨its,r,pl,hz⟩:=I.tuple hq
 obtain ⟨j,h1,h2,h3,h4,h5⟩:=Zg8 he
 obtain ⟨w,ew,rw'⟩:=r.get h2
 have hl:=r.length
 have hn:=line63
 have fin:EP X pins σ Q w s:=⟨z,H,I,rw',q⟩
 exact subscriptTail_builtinR (x:=w) pl.typeIs slot_tuple_getitem.lookup
  (getItem_tuple (j:=j) (Q:=fun r s'=>r=w∧EP X pins σ Q r s') pl (by omega) (by omega) (by rw[List.size_toArray,← hl];exact h1) (by simpa using ew) ⟨rfl,fin⟩) hs
theorem Zdb (its:List Value) (n j:Nat) (u:Value):Obj.mapSeq (·.setIfInBounds j u) { cls:=.type "list",data:=.seq its.toArray n }={ cls:=.type "list",data:=.seq (its.set j u).toArray n }:=by
 simp[Obj.mapSeq]
theorem Inv.lst {pins:List (Addr×Obj)} {σ:St} {H:Hp} {s:Shared} {p:Addr} {xs:List V} (I:Inv X pins σ H s) (h:H p=some (.lst xs)) :
  ∃ (its:List Value) (n:Nat),Vals xs its∧s.heap.get? p=some { cls:=.type "list",data:=.seq its.toArray n }∧xs.length≤sizeLine:=by
 obtain ⟨z,its,n,r,e⟩:=I.hok p _ h
 exact ⟨its,n,r,e,z⟩
theorem Inv.lstUpd {pins:List (Addr×Obj)} {σ:St} {H:Hp} {s:Shared} {p:Addr} {xs ys:List V} {its its':List Value} {n n':Nat} {f:Obj→Obj} (I:Inv X pins σ H s) (h:H p=some (.lst xs))
  (ho:s.heap.get? p=some { cls:=.type "list",data:=.seq its.toArray n }) (hf:f { cls:=.type "list",data:=.seq its.toArray n }={ cls:=.type "list",data:=.seq its'.toArray n' }) (r:Vals ys its') (hz:ys.length≤sizeLine) (t:Nat) :
  Inv X pins σ (upd H p (.lst ys)) { s with heap:=s.heap.update p f,toks:=t }:=by
 have e:(s.heap.update p f).get? p=some { cls:=.type "list",data:=.seq its'.toArray n' }:=by
  rw[Heap.get?_update_self f ho (by rw[hf] <;> rfl),hf]
 refine I.write (x:=p) (e:=p) (by rw[h];trivial) (.inl rfl) (fun b u hb q=>(Heap.get?_update_other _ _ (Ne.symm hb)).trans q) ⟨_,e⟩ ?_
 exact ⟨hz,its',n',r,e⟩
def rSetL:V→V→V→Hp→(Hp→Prop)→Prop:=fun o i v H Q=>∃ p xs k j,o=.ref p∧i=.int k∧H p=some (.lst xs)∧ixN xs.length k=some j∧Q (upd H p (.lst (xs.set j v)))
theorem Z7v:PSet X rSetL:=by
 intro pins s σ H o i v ov iv u Q I ro ri rv h
 obtain ⟨p,xs,k,j,rfl,rfl,hp,hj,q⟩:=h
 cases ro
 obtain ⟨t,rfl⟩:=ri
 obtain ⟨its,n,r,ho,hz⟩:=I.lst hp
 obtain ⟨h1,h2,h3,h4⟩:=Zfk hj
 have hl:=r.length
 have hn:=line63
 have I':Inv X pins σ (upd H p (.lst (xs.set j v))) { s with heap:=s.heap.update p (Obj.mapSeq (·.setIfInBounds j u)) }:=
  I.lstUpd hp ho (Zdb its n j u) (r.set rv j) (by rw[List.length_set];exact hz) s.toks
 by_cases h0:0≤k
 ·have hk:k.toNat=j:=by
   rw[seqIndex_of h0 h4] at h1
   exact Option.some.inj h1
  exact PySem.W.ki_setAt ho h0 (by omega) (by rw[List.size_toArray,← hl];exact h4) (by rw[hk];exact ⟨_,I',q⟩)
 ·have hk:(k+(its.toArray.size:Int)).toNat=j:=by
   rw[seqIndex_neg (by omega) h3] at h1
   rw[List.size_toArray,← hl]
   exact Option.some.inj h1
  exact PySem.W.ki_setBack ho (by omega) (by rw[List.size_toArray,← hl];exact h3) (by omega) (by rw[hk];exact ⟨_,I',q⟩)
theorem Z91 (lo hi:Option Int) (n:Nat):(sliceBounds lo hi none n).1=((HT.sIx n 0 lo:Nat):Int)∧(sliceBounds lo hi none n).2.1=((HT.sIx n n hi:Nat):Int)∧(sliceBounds lo hi none n).2.2=1:=by
 refine ⟨?_,?_,rfl⟩
 ·cases lo with
  | none=>simp[sliceBounds,HT.sIx]
  | some i=>
   simp only[sliceBounds,HT.sIx,Option.getD_none,show (1:Int)>0 by decide,if_true]
   by_cases h:i<0
   ·simp only[h,if_true] <;> omega
   ·simp only[h,if_false] <;> omega
 ·cases hi with
  | none=>simp[sliceBounds,HT.sIx]
  | some i=>
   simp only[sliceBounds,HT.sIx,Option.getD_none,show (1:Int)>0 by decide,if_true]
   by_cases h:i<0
   ·simp only[h,if_true] <;> omega
   ·simp only[h,if_false] <;> omega
theorem Z7t (its:List Value) (lo hi:Option Int):slicePick its.toArray lo hi none=((its.drop (HT.sIx its.length 0 lo)).take (HT.sIx its.length its.length hi-HT.sIx its.length 0 lo)).toArray:=by
 obtain ⟨h1,h2,h3⟩:=Z91 lo hi its.toArray.size
 unfold slicePick
 rw[h1,h2,h3]
 simp only[sliceRange_one,pick_run,List.size_toArray] <;> rfl
def rSlL (K:PySem.W.Frag):V→Option Int→Option Int→Hp→VK→Prop:=fun x lo hi H Q=>∃ a xs,x=.ref a∧SqL K H a xs∧∀ p,H p=none→Q (.ref p) (upd H p (.lst (cutV xs lo hi)))
theorem Z7u:SlR X (rSlL X.K):=by
 intro pins s σ H x v vl vu lo hi sl Q I rx hs pl pu h
 obtain ⟨a,xs,rfl,hx,q⟩:=h
 cases rx
 obtain ⟨its,r,ht,hz⟩:=I.list hx
 have hlen:=r.length
 refine ⟨"list",_,slot_list_getitem.lookup,ht.isList.typeIs,?_⟩
 refine wpAny_getItem_list_slice ht.isList hs pl pu .none (by simp) ?_ (by rw[List.size_toArray] <;> omega)
 rw[Z7t,← hlen]
 refine ⟨.ref s.heap.objs.size,_,I.laid (t':=s.toks) (o:=.lst (cutV xs lo hi)) (fun b ob q=>Heap.get?_push_of_some _ q) (Nat.le_refl _) ?_,rfl,q _ (I.hok.fresh (Nat.le_refl _))⟩
 exact ⟨Nat.le_trans (Z5g xs lo hi) hz,_,0,(r.drop (HT.sIx xs.length 0 lo)).take (HT.sIx xs.length xs.length hi-HT.sIx xs.length 0 lo),Heap.get?_push_size _ rfl⟩
theorem Y2:CallR X (.builtin "len") (fun xs H Q=>∃ p ys,xs=[.ref p]∧(SqL X.K H p ys∨SqT X.K H p ys)∧Q (.int ys.length) H):=by
 intro pins s σ H xs us Q I r h
 obtain ⟨p,ys,rfl,hq,q⟩:=h
 obtain ⟨u,rfl,rx⟩:=vals1 r
 cases rx
 have hn:=line63
 rcases hq with hq | hq
 ·obtain ⟨its,r',pl,hz⟩:=I.list hq
  have hlen:=r'.length
  exact Calls.call_len_list pl.isList (by simp only[List.size_toArray] <;> omega) ⟨.int ys.length,H,I.tok _,⟨s.toks+1,by rw[List.size_toArray,hlen]⟩,q⟩
 ·obtain ⟨its,r',pl,hz⟩:=I.tuple hq
  have hlen:=r'.length
  exact len_tuple pl (by simp only[List.size_toArray] <;> omega) ⟨.int ys.length,H,I.tok _,⟨s.toks+1,by rw[List.size_toArray,hlen]⟩,q⟩
theorem Z9p:CallR X (.type "list") (fun xs H Q=>∃ p ys,xs=[.ref p]∧(SqL X.K H p ys∨SqT X.K H p ys)∧∀ l,H l=none→Q (.ref l) (upd H l (.lst ys))):=by
 intro pins s σ H xs us Q I r h
 obtain ⟨p,ys,rfl,hq,q⟩:=h
 obtain ⟨u,rfl,rx⟩:=vals1 r
 cases rx
 have fin:∀ (its:List Value),Vals ys its→ys.length≤sizeLine→∀ (h':Heap) (c':Nat),(∀ b o',s.heap.get? b=some o'→h'.get? b=some o') →
   h'.get? s.heap.objs.size=some { cls:=.type "list",dict:=none,data:=.seq its.toArray c',slots:=#[] }→EP X pins σ Q (.ref s.heap.objs.size) { s with heap:=h' }:=fun its r' hz h' c' kp e=>
  ⟨.ref s.heap.objs.size,_,I.laid (t':=s.toks) kp (Nat.le_refl _) (show ObjOk X.prog X.w _ h' _ (.lst ys) from ⟨hz,its,c',r',e⟩),rfl,q _ (I.hok.fresh (Nat.le_refl _))⟩
 rcases hq with hq | hq
 ·obtain ⟨its,r',pl,hz⟩:=I.list hq
  have hlen:=r'.length
  obtain ⟨o,ho,hc,n,hd⟩:=pl.isList
  exact call_list_seq p (.inl rfl) ho hc hd (fun h' c' kp e=>fin its r' hz h' c' kp e) (by simp only[List.size_toArray] <;> omega)
 ·obtain ⟨its,r',pl,hz⟩:=I.tuple hq
  have hlen:=r'.length
  obtain ⟨o,ho,hc,n,hd⟩:=pl
  exact call_list_seq p (.inr rfl) ho hc hd (fun h' c' kp e=>fin its r' hz h' c' kp e) (by simp only[List.size_toArray] <;> omega)
theorem Z2h:CallR X (.type "tuple") (fun xs H Q=>∃ p ys,xs=[.ref p]∧((SqL X.K H p ys∧∀ l,H l=none→Q (.ref l) (upd H l (.tup ys)))∨(SqT X.K H p ys∧Q (.ref p) H))):=by
 intro pins s σ H xs us Q I r h
 obtain ⟨p,ys,rfl,h⟩:=h
 obtain ⟨u,rfl,rx⟩:=vals1 r
 cases rx
 rcases h with ⟨hq,q⟩ | ⟨hq,q⟩
 ·obtain ⟨its,r',pl,hz⟩:=I.list hq
  have hlen:=r'.length
  refine call_tuple_list pl.isList (fun h' kp=>?_) (by simp only[List.size_toArray] <;> omega)
  have I1:Inv X pins σ H { s with heap:=h' }:=I.kept (t':=s.toks) kp
  have I2:Inv X pins σ (upd H h'.objs.size (.tup ys)) { s with heap:=h'.push { cls:=.type "tuple",data:=.seq its.toArray } }:=
   I1.laid (t':=s.toks) (fun b o e=>Heap.get?_push_of_some _ e) (Nat.le_refl _) (show ObjOk X.prog X.w _ _ _ (.tup ys) from ⟨hz,its,r',IsTup.new _ _⟩)
  exact ⟨.ref h'.objs.size,_,I2,rfl,q _ (I1.hok.fresh (Nat.le_refl _))⟩
 ·obtain ⟨its,r',pl,hz⟩:=I.tuple hq
  exact call_tuple_same pl ⟨.ref p,H,I,rfl,q⟩
def tyV (K:PySem.W.Frag) (T:String) (x:V) (H:Hp):Prop:=match x with
 | .str _=>T = "str"
 | .int _=>T = "int"
 | .ref p=>(T = "list" ∧ ∃ xs,SqL K H p xs)∨(T = "tuple" ∧ ∃ o,K.lookup p=some o∧o.cls=.type "tuple" ∧ o.dict=none) ∨
   (T = "dict" ∧ ((∃ kvs,H p=some (.dK kvs))∨∃ kvs,H p=some (.dT kvs)))∨(T = "set" ∧ ∃ S n,H p=some (.set S n))
 | _=>False
theorem tyV_is {pins:List (Addr×Obj)} {σ:St} {H:Hp} {s:Shared} {T:String} {x:V} {v:Value} (I:Inv X pins σ H s) (r:RelV x v) (ty:tyV X.K T x H) :
  s.TypeIs v T∧∀ a,v=.ref a→∃ ob,s.heap.get? a=some ob∧ob.dict=none:=by
 cases x with
 | str z=>
  obtain ⟨t,rfl⟩:=r
  cases (show T = "str" from ty)
  exact ⟨typeIs_str s z t,fun _ e=>nomatch e⟩
 | int i=>
  obtain ⟨t,rfl⟩:=r
  cases (show T = "int" from ty)
  exact ⟨typeIs_int s i t,fun _ e=>nomatch e⟩
 | ref p=>
  cases r
  rcases ty with ⟨rfl,xs,hq⟩ | ⟨rfl,o,hk,hc,hd⟩ | ⟨rfl,hk⟩ | ⟨rfl,S,n,hk⟩
  ·obtain ⟨its,_,pl,_⟩:=I.list hq
   refine ⟨pl.isList.typeIs,fun a e=>?_⟩
   cases e
   obtain ⟨o,n,e,c,hd,_⟩:=pl
   exact ⟨o,e,hd⟩
  ·refine ⟨⟨o,I.kIn p o hk,hc⟩,fun a e=>?_⟩
   cases e
   exact ⟨o,I.kIn _ o hk,hd⟩
  ·have z:∃ o,s.heap.get? p=some o∧o.ExactDict:=by
    rcases hk with ⟨kvs,hk⟩ | ⟨kvs,hk⟩
    ·obtain ⟨_,_,_,_,o,_,_,e,ex,_⟩:=I.hok p _ hk
     exact ⟨o,e,ex⟩
    ·obtain ⟨_,_,_,_,o,_,_,e,ex,_⟩:=I.hok p _ hk
     exact ⟨o,e,ex⟩
   obtain ⟨o,e,ex⟩:=z
   refine ⟨⟨o,e,ex.1⟩,fun a e2=>?_⟩
   cases e2
   exact ⟨o,e,ex.2.1⟩
  ·obtain ⟨o,_,_,_,e,ex,_⟩:=I.hok p _ hk
   refine ⟨⟨o,e,ex.1⟩,fun a e2=>?_⟩
   cases e2
   exact ⟨o,e,ex.2.1⟩
 | _=>exact False.elim ty
def tBM (K:PySem.W.Frag) (T:String) (r:V→List V→Hp→VK→Prop) (to:TE) (t:TA):TE:=fun σ H Q=>to σ H fun x H1=>tyV K T x H1∧t σ H1 fun xs H2=>r x xs H2 Q
variable {o e:Expr} {es:List Expr} {to:TE} {t:TA} {name:Str} {apos cpos:Pos} {T id:String} {r:V→List V→Hp→VK→Prop}
theorem pe_bm (pa:PlainAttrs T) (slot:Slot T name id) (hty:typeOf (.builtin id)=pure (.type "method_descriptor")) (hm:MtR X id r) (ho:PE X o to) (ha:PA X (e::es) t)
  (hbase:attributeBase o name X.env (eval o X.env)=eval o X.env:=by rfl)
  (hfew:((backTo cpos (starEach (e::es) X.env)).all (fun x=>!x.1)&&(backToKw cpos (keywordEach [] X.env)).all (fun x=>x.1.isSome)
   && decide ((e::es).length+([]:List Keyword).length+(if ([]:List Keyword).isEmpty then 0 else 1)<30))=true:=by rfl)
  (hline:(apos.endLine==cpos.line)=true:=by rfl) (hs:starEach (e::es) X.env=(false,eval e X.env)::starEach es X.env:=by rfl) (hplain:(backTo cpos (starEach es X.env)).any (·.1)=false:=by rfl) :
  PE X (.Call (.Attribute o name apos) (e::es) [] cpos) (tBM X.K T r to t):=by
 intro pins s σ H Q I h
 refine wpAny_Call_method_late hbase hfew hline rfl (thn (ho pins s σ H _ I h) fun v s1 ⟨x,H1,I1,r1,ty,q1⟩=>?_)
 obtain ⟨h1,h2⟩:=tyV_is I1 r1 ty
 refine ⟨T,id,pa,slot,hty,h1,h2,?_⟩
 have hA:=ha cpos pins s1 σ H1 _ I1 q1
 rw[hs] at hA ⊢
 refine Calls.callWith_builtin (by show (false||(backTo cpos (starEach es X.env)).any (·.1))=false;rw[hplain] <;> rfl) (Calls.evalArgs_plain ?_)
 exact thn hA fun us s2 ⟨vs,H2,I2,r2,q2⟩=>hm pins s2 σ H2 x vs v us Q I2 r1 r2 q2
end
end L2
namespace L2
open PySem PySem.Spec PyProof.Rows
def MtM (X:Cx) (id:String) (r:V→List V→Hp→VK→Prop):Prop:=
 ∀ (pins:List (Addr×Obj)) (s:Shared) (σ:St) (H:Hp) (x:V) (xs:List V) (v:Value) (us:List Value) (Q:VK),Inv X pins σ H s→RelV x v→Vals xs us→r x xs H Q →
  wpAny (model X.prog X.w) X.A (call (.builtin id) (v::us)) (EP X pins σ Q) X.xe s
theorem Vals.one:∀ {x:V} {us:List Value},Vals [x] us→∃ u,us=[u]∧RelV x u
 | _,_,.cons r .nil=>⟨_,rfl,r⟩
section
variable {X:Cx} {pins:List (Addr×Obj)} {σ:St} {H:Hp} {s:Shared} {l b:Addr} {xs ys zs:List V}
theorem Inv.lset {its its':List Value} {n:Nat} {f:Array Value→Array Value} {t':Nat} (I:Inv X pins σ H s) (hH:H l=some (.lst xs))
  (e:s.heap.get? l=some { cls:=.type "list",data:=.seq its.toArray n }) (hf:f its.toArray=its'.toArray) (hv:Vals ys its') (hz:ys.length≤sizeLine) :
  Inv X pins σ (upd H l (.lst ys)) { s with heap:=s.heap.update l (Obj.mapSeq f),toks:=t' }:=by
 have q:=PySem.IsL.update e f
 rw[hf] at q
 refine I.write (x:=l) (e:=l) (by rw[hH];exact trivial) (.inl rfl) (fun b' u hb hu=>(Heap.get?_update_other s.heap (Obj.mapSeq f) (Ne.symm hb)).trans hu) ⟨_,q⟩ ?_
 exact ⟨hz,its',_,hv,q⟩
theorem Inv.lnew {its:List Value} {t':Nat} (I:Inv X pins σ H s) (hv:Vals ys its) (hz:ys.length≤sizeLine) :
  Inv X pins σ (upd H s.heap.objs.size (.lst ys)) { s with heap:=s.heap.push { cls:=.type "list",data:=.seq its.toArray },toks:=t' }:=
 I.laid (fun _ _ q=>Heap.get?_push_of_some _ q) (Nat.le_refl _) ⟨hz,its,0,hv,Heap.get?_push_size _ rfl⟩
theorem Inv.fresh (I:Inv X pins σ H s):H s.heap.objs.size=none:=I.hok.fresh (Nat.le_refl _)
theorem Inv.lstM (I:Inv X pins σ H s) (hH:H l=some (.lst xs)):xs.length≤sizeLine∧∃ (its:List Value) (n:Nat),Vals xs its∧xs.length=its.length∧s.heap.get? l=some { cls:=.type "list",data:=.seq its.toArray n }:=by
 obtain ⟨z,its,n,r,e⟩:=I.hok l _ hH
 exact ⟨z,its,n,r,r.length,e⟩
theorem notLongL {n:Nat} (h:n≤sizeLine):Builtin.List.listTooLong n=false:=by
 unfold Builtin.List.listTooLong
 exact decide_eq_false (by omega)
end
section
variable {X:Cx}
def rAppend:V→List V→Hp→VK→Prop:=fun x vs H Q=>∃ l xs y,x=.ref l∧vs=[y]∧H l=some (.lst xs)∧xs.length<sizeLine∧Q .non (upd H l (.lst (xs++[y])))
theorem Z53:MtM X "list.append" rAppend:=by
 intro pins s σ H x vs v us Q I rx rv h
 obtain ⟨l,xs,y,rfl,rfl,hH,hz,q⟩:=h
 cases rx
 obtain ⟨u,rfl,ru⟩:=rv.one
 obtain ⟨z,its,n,r,hl,e⟩:=I.lstM hH
 refine call_meets F.slot_list_append ⟨_,e,rfl⟩ F.entry_list_append (F.args_list_append_2 _ _) (PySem.list_append l its.toArray n u (by rw[List.size_toArray];omega)) ⟨e,?_⟩
 refine ⟨.non,_,I.lset (its':=its++[u]) hH e (by simp) (r.append (.cons ru .nil)) ?_,rfl,q⟩
 rw[List.length_append,List.length_singleton]
 omega
def rExtend:V→List V→Hp→VK→Prop:=fun x vs H Q=>∃ l b xs zs,x=.ref l∧vs=[.ref b]∧H l=some (.lst xs)∧H b=some (.lst zs)∧xs.length+zs.length≤sizeLine∧Q .non (upd H l (.lst (xs++zs)))
theorem Ux:MtM X "list.extend" rExtend:=by
 intro pins s σ H x vs v us Q I rx rv h
 obtain ⟨l,b,xs,zs,rfl,rfl,hH,hB,hz,q⟩:=h
 cases rx
 obtain ⟨u,rfl,ru⟩:=rv.one
 cases ru
 obtain ⟨z,its,n,r,hl,e⟩:=I.lstM hH
 obtain ⟨z2,its2,n2,r2,hl2,e2⟩:=I.lstM hB
 have hsz:its.toArray.size+its2.toArray.size≤sizeLine:=by rw[List.size_toArray,List.size_toArray];omega
 have hlong:¬ (!its.toArray.isEmpty&&Builtin.List.listTooLong (its.toArray.size+its2.toArray.size))=true:=by
  rw[notLongL hsz,Bool.and_false]
  exact Bool.false_ne_true
 refine call_meets F.slot_list_extend ⟨_,e,rfl⟩ F.entry_list_extend (F.args_list_extend_2 _ _)
  (AutoSeq1.list_extend_list_list_0 l its.toArray n b its2.toArray n2 hlong (by rw[List.size_toArray];omega) (by omega)) ⟨e,e2,?_⟩
 refine ⟨.non,_,I.lset (its':=its++its2) hH e (by simp) (r.append r2) ?_,rfl,q⟩
 rw[List.length_append]
 omega
def rCat:R2:=fun x y H Q=>∃ l b xs zs,x=.ref l∧y=.ref b∧H l=some (.lst xs)∧H b=some (.lst zs)∧xs.length+zs.length≤sizeLine∧∀ p,H p=none→Q (.ref p) (upd H p (.lst (xs++zs)))
theorem Z28:OpR X (binaryOp .Add) rCat:=by
 intro pins s σ H x y v u Q I rx ry h
 obtain ⟨l,b,xs,zs,rfl,rfl,hH,hB,hz,q⟩:=h
 cases rx
 cases ry
 obtain ⟨z,its,n,r,hl,e⟩:=I.lstM hH
 obtain ⟨z2,its2,n2,r2,hl2,e2⟩:=I.lstM hB
 refine PySem.P.add_list e e2 ?_ (by rw[List.size_toArray,List.size_toArray];omega)
 have ea:its.toArray++its2.toArray=(its++its2).toArray:=by simp
 rw[ea]
 exact ⟨.ref _,_,I.lnew (t':=s.toks) (r.append r2) (by rw[List.length_append];omega),rfl,q _ I.fresh⟩
end
section
variable {prog:Program} {w:World} {A:Around} {E:Value→Shared→Prop} {s:Shared}
end
section
variable {X:Cx}
end
end L2
namespace L2
open PySem PySem.Spec PyProof.Rows
theorem Vals.ints:∀ {ns:List Int} {us:List Value},Vals (ns.map V.int) us→IntsAre us ns
 | [],us,h=>by
  rw[List.map_nil] at h
  cases h
  exact IntsAre.nil
 | n::ns,us,h=>by
  rw[List.map_cons] at h
  cases h with
  | cons r t=>
   obtain ⟨k,rfl⟩:=r
   exact IntsAre.cons n k (Vals.ints t)
theorem Z34:∀ {us:List Value} {ns:List Int},IntsAre us ns→Vals (ns.map V.int) us
 | _,_,.nil=>by rw[List.map_nil];exact Paired.nil
 | _,_,.cons n t h=>by rw[List.map_cons];exact Paired.cons (show RelV (V.int n) (Value.int n t) from ⟨t,rfl⟩) (Z34 h)
theorem Vals.bls:∀ {bs:List Bool} {us:List Value},Vals (bs.map V.bl) us→us=bs.map Value.bool
 | [],us,h=>by
  rw[List.map_nil] at h
  cases h
  rfl
 | b::bs,us,h=>by
  rw[List.map_cons] at h
  cases h with
  | cons r t=>
   cases r
   rw[Vals.bls t,List.map_cons]
theorem Vals.ref1 {a:Addr} {us:List Value} (r:Vals [V.ref a] us):us=[Value.ref a]:=by
 cases r with
 | cons r t=>
  cases t
  cases r
  rfl
section
variable {prog:Program} {w:World} {A:Around} {E:Value→Shared→Prop} {s:Shared} {l:Addr} {its:List Value} {ns:List Int} {Q:Value→Shared→Prop}
theorem max_raw (hh:A.handled=none) (hl:s.heap.IsList l its.toArray) (hi:IntsAre its ns) (hne:0<ns.length)
  (h:∀ h' tk M t',(∀ b o,s.heap.get? b=some o→h'.get? b=some o)→M∈ns→(∀ a,a∈ns→a≤M)→Q (.int M t') { s with heap:=h',toks:=tk }):wpAny (model prog w) A (call (.builtin "max") [.ref l]) Q E s:=by
 obtain ⟨xs,e⟩:=hi.allInts.items
 have hn:numsOf (intItems xs).toList=ns:=by rw[← e];exact hi.numsOf
 rw[nums_intItems] at hn
 subst hn
 rw[e] at hl
 have hsz:0<xs.size:=by simpa using hne
 refine PySem.max_intList hh hl hsz fun v h' tk hv hk=>?_
 obtain ⟨t,rfl⟩:=intItems_at hv
 obtain ⟨h1,h2⟩:=argBest_gt (numAt xs) (xs.size-1)
 refine h h' tk _ t hk ?_ fun a ha=>?_
 ·rw[numAt_eq];exact PySem.getD_mem (by rw[List.length_map,Array.length_toList];omega)
 ·obtain ⟨j,hj,rfl⟩:=mem_getD ha
  rw[List.length_map,Array.length_toList] at hj
  rw[← numAt_eq];exact h2 j (by omega)
theorem min_raw (hh:A.handled=none) (hl:s.heap.IsList l its.toArray) (hi:IntsAre its ns) (hne:0<ns.length)
  (h:∀ h' tk M t',(∀ b o,s.heap.get? b=some o→h'.get? b=some o)→M∈ns→(∀ a,a∈ns→M≤a)→Q (.int M t') { s with heap:=h',toks:=tk }):wpAny (model prog w) A (call (.builtin "min") [.ref l]) Q E s:=by
 obtain ⟨xs,e⟩:=hi.allInts.items
 have hn:numsOf (intItems xs).toList=ns:=by rw[← e];exact hi.numsOf
 rw[nums_intItems] at hn
 subst hn
 rw[e] at hl
 have hsz:0<xs.size:=by simpa using hne
 refine PySem.min_intList hh hl hsz fun v h' tk hv hk=>?_
 obtain ⟨t,rfl⟩:=intItems_at hv
 obtain ⟨h1,h2⟩:=argBest_lt (numAt xs) (xs.size-1)
 refine h h' tk _ t hk ?_ fun a ha=>?_
 ·rw[numAt_eq];exact PySem.getD_mem (by rw[List.length_map,Array.length_toList];omega)
 ·obtain ⟨j,hj,rfl⟩:=mem_getD ha
  rw[List.length_map,Array.length_toList] at hj
  rw[← numAt_eq];exact h2 j (by omega)
end
section
variable {X:Cx}
def rMax (K:PySem.W.Frag):List V→Hp→VK→Prop:=fun vs H Q=>∃ (a:Addr) (ns:List Int),vs=[V.ref a]∧SqL K H a (ns.map V.int)∧0<ns.length∧∀ m,m∈ns→(∀ y,y∈ns→y≤m)→Q (.int m) H
def rMin (K:PySem.W.Frag):List V→Hp→VK→Prop:=fun vs H Q=>∃ (a:Addr) (ns:List Int),vs=[V.ref a]∧SqL K H a (ns.map V.int)∧0<ns.length∧∀ m,m∈ns→(∀ y,y∈ns→m≤y)→Q (.int m) H
theorem cr_max (hc:X.calm=true):CallR X (.builtin "max") (rMax X.K):=by
 intro pins s σ H vs us Q I r h
 obtain ⟨a,ns,rfl,hs,hne,q⟩:=h
 obtain ⟨its,rv,hl,_⟩:=I.list hs
 rw[Vals.ref1 r]
 exact max_raw (I.ok.hd hc) hl.isList rv.ints hne fun h' tk m t' hk h1 h2=>⟨.int _,H,I.kept hk,⟨_,rfl⟩,q m h1 h2⟩
theorem cr_min (hc:X.calm=true):CallR X (.builtin "min") (rMin X.K):=by
 intro pins s σ H vs us Q I r h
 obtain ⟨a,ns,rfl,hs,hne,q⟩:=h
 obtain ⟨its,rv,hl,_⟩:=I.list hs
 rw[Vals.ref1 r]
 exact min_raw (I.ok.hd hc) hl.isList rv.ints hne fun h' tk m t' hk h1 h2=>⟨.int _,H,I.kept hk,⟨_,rfl⟩,q m h1 h2⟩
end
section
variable {X:Cx}
end
section
variable {X:Cx}
end
theorem Zc2 {prog:Program} {w:World} {A:Around} {E:Value→Shared→Prop} {s:Shared} {l:Addr} {items:Array Value} {Q:Value→Shared→Prop} (hl:s.heap.IsList l items)
  (h:∀ s₂:Shared,s₂={ s with heap:=s.heap.push { cls:=.type "list_iterator",data:=.fields #[.ref l,.int 0 0] } } →
   (s₂.heap.IsListIter s.heap.objs.size l 0∧s₂.heap.IsList l items)→l≠s.heap.objs.size→Q (.ref s.heap.objs.size) s₂):wpAny (model prog w) A (pyIter (.ref l)) Q E s:=by
 have hlt:l<s.heap.objs.size:=by obtain ⟨_,e,_⟩:=hl;exact Heap.lt_size e
 exact wpAny_pyIter_list hl (h _ rfl ⟨⟨_,Heap.get?_push_size _ rfl,rfl,rfl⟩,hl.push _⟩ (Nat.ne_of_lt hlt))
theorem Z41 {prog:Program} {w:World} {A:Around} {bs:List Bool} {its:List Value} (e:its=bs.map Value.bool) :
  TruthOf prog w A (fun i v=>its.toArray[i]?=some v) (fun i=>bs.getD i false):=fun i v s Q E hv hq=>by
 have hv':its[i]?=some v:=by simpa using hv
 rw[e,List.getElem?_map] at hv'
 obtain ⟨b,hb,rfl⟩:=Option.map_eq_some_iff.mp hv'
 have hg:bs.getD i false=b:=by rw[List.getD_eq_getElem?_getD,hb] <;> rfl
 have hq':Q (bs.getD i false) s:=hq
 rw[hg] at hq'
 exact wpAny_truthy_bool hq'
theorem Z9z:∀ bs:List Bool,(List.range bs.length).any (fun i=>bs.getD i false)=bs.any id
 | []=>rfl
 | b::bs=>by
  rw[List.length_cons,List.range_succ_eq_map,List.any_cons,List.any_map,List.any_cons,← Z9z bs]
  all_goals rfl
theorem Za0:∀ bs:List Bool,(List.range bs.length).all (fun i=>bs.getD i false)=bs.all id
 | []=>rfl
 | b::bs=>by
  rw[List.length_cons,List.range_succ_eq_map,List.all_cons,List.all_map,List.all_cons,← Za0 bs]
  all_goals rfl
section
variable {X:Cx}
def rAny (K:PySem.W.Frag):List V→Hp→VK→Prop:=fun vs H Q=>∃ (a:Addr) (bs:List Bool),vs=[V.ref a]∧SqL K H a (bs.map V.bl)∧Q (.bl (bs.any id)) H
def rAll (K:PySem.W.Frag):List V→Hp→VK→Prop:=fun vs H Q=>∃ (a:Addr) (bs:List Bool),vs=[V.ref a]∧SqL K H a (bs.map V.bl)∧Q (.bl (bs.all id)) H
theorem cr_any (hc:X.calm=true):CallR X (.builtin "any") (rAny X.K):=by
 intro pins s σ H vs us Q I r h
 obtain ⟨a,bs,rfl,hs,q⟩:=h
 obtain ⟨its,rv,hl,_⟩:=I.list hs
 rw[Vals.ref1 r]
 have hb:=rv.bls
 refine call_any_walk (Zc2 hl.isList fun s₂ e2 st hne=>?_)
 subst e2
 refine ⟨_,_,_,_,_,_,_,rfl,Walks.list (A:=X.A.in1) (I.ok.hd hc) _ a hne its.toArray,st,Z41 hb,fun h' tk hk=>?_⟩
 refine ⟨.bl _,H,I.kept fun b o eo=>hk b o (fun hmem=>?_) (Heap.get?_push_of_some _ eo),?_,q⟩
 ·rcases List.mem_cons.mp hmem with e1 | hmem
  ·exact absurd (e1 ▸ Heap.lt_size eo) (Nat.lt_irrefl _)
  ·cases hmem
 ·show Value.bool _=Value.bool _
  rw[← Z9z,hb,List.size_toArray,List.length_map]
theorem cr_all (hc:X.calm=true):CallR X (.builtin "all") (rAll X.K):=by
 intro pins s σ H vs us Q I r h
 obtain ⟨a,bs,rfl,hs,q⟩:=h
 obtain ⟨its,rv,hl,_⟩:=I.list hs
 rw[Vals.ref1 r]
 have hb:=rv.bls
 refine call_all_walk (Zc2 hl.isList fun s₂ e2 st hne=>?_)
 subst e2
 refine ⟨_,_,_,_,_,_,_,rfl,Walks.list (A:=X.A.in1) (I.ok.hd hc) _ a hne its.toArray,st,Z41 hb,fun h' tk hk=>?_⟩
 refine ⟨.bl _,H,I.kept fun b o eo=>hk b o (fun hmem=>?_) (Heap.get?_push_of_some _ eo),?_,q⟩
 ·rcases List.mem_cons.mp hmem with e1 | hmem
  ·exact absurd (e1 ▸ Heap.lt_size eo) (Nat.lt_irrefl _)
  ·cases hmem
 ·show Value.bool _=Value.bool _
  rw[← Za0,hb,List.size_toArray,List.length_map]
end
mutual
inductive Dp (K:PySem.W.Frag) (H:Hp):V→PyData→Prop
 | non:Dp K H .non .none
 | bl (b:Bool):Dp K H (.bl b) (.bool b)
 | int (i:Int):Dp K H (.int i) (.int i)
 | str (x:Str):Dp K H (.str x) (.str x)
 | lst {a:Addr} {xs:List V} {ds:List PyData}:SqL K H a xs→DpAll K H xs ds→Dp K H (.ref a) (.list ds)
 | tup {a:Addr} {xs:List V} {ds:List PyData}:SqT K H a xs→DpAll K H xs ds→Dp K H (.ref a) (.tuple ds)
inductive DpAll (K:PySem.W.Frag) (H:Hp):List V→List PyData→Prop
 | nil:DpAll K H [] []
 | cons {v:V} {vs:List V} {d:PyData} {ds:List PyData}:Dp K H v d→DpAll K H vs ds→DpAll K H (v::vs) (d::ds)
end
section
variable {X:Cx} {pins:List (Addr×Obj)} {σ:St} {H:Hp} {s:Shared}
mutual
theorem Dp.reads (I:Inv X pins σ H s):∀ (d:PyData) (v:V) (u:Value),Dp X.K H v d→RelV v u→∃ as,Reads s.heap u d as
 | .none,_,_,h,r=>by
  cases h
  cases r
  exact ⟨_,Reads.none⟩
 | .bool b,_,_,h,r=>by
  cases h
  cases r
  exact ⟨_,Reads.bool b⟩
 | .int i,_,_,h,r=>by
  cases h
  obtain ⟨t,rfl⟩:=r
  exact ⟨_,Reads.int i t⟩
 | .str x,_,_,h,r=>by
  cases h
  obtain ⟨t,rfl⟩:=r
  exact ⟨_,Reads.str x t⟩
 | .list ds,_,_,h,r=>by
  cases h with
  | lst hs ha=>
   cases r
   obtain ⟨its,rv,⟨o,n,ho,hc,_,hd⟩,_⟩:=I.list hs
   obtain ⟨as,hr⟩:=Dp.readsAll I ds _ its ha rv
   exact ⟨_,Reads.list ho hc hd hr⟩
 | .tuple ds,_,_,h,r=>by
  cases h with
  | tup hs ha=>
   cases r
   obtain ⟨its,rv,⟨o,ho,hc,n,hd⟩,_⟩:=I.tuple hs
   obtain ⟨as,hr⟩:=Dp.readsAll I ds _ its ha rv
   exact ⟨_,Reads.tuple ho hc hd hr⟩
 | .dict _,_,_,h,_=>by cases h
theorem Dp.readsAll (I:Inv X pins σ H s):∀ (ds:List PyData) (vs:List V) (us:List Value),DpAll X.K H vs ds→Vals vs us→∃ as,ReadsAll s.heap us ds as
 | [],_,_,h,r=>by
  cases h
  cases r
  exact ⟨_,ReadsAll.nil⟩
 | d::ds,_,_,h,r=>by
  cases h with
  | cons h1 h2=>
   cases r with
   | cons r1 r2=>
    obtain ⟨as,q1⟩:=Dp.reads I d _ _ h1 r1
    obtain ⟨bs,q2⟩:=Dp.readsAll I ds _ _ h2 r2
    exact ⟨_,ReadsAll.cons q1 q2⟩
end
end
section
variable {X:Cx}
noncomputable def rEqD (K:PySem.W.Frag):R2:=fun x y H Q=>∃ d e,Dp K H x d∧Dp K H y e∧SeqAt.shaped d=true∧SeqAt.shaped e=true∧Q (.bl (PyData.eqv d e)) H
noncomputable def rNeD (K:PySem.W.Frag):R2:=fun x y H Q=>∃ d e,Dp K H x d∧Dp K H y e∧SeqAt.shaped d=true∧SeqAt.shaped e=true∧Q (.bl (!PyData.eqv d e)) H
theorem Zhl (hu:X.A.units+64<cLine):OpR X (compareOp .Eq) (rEqD X.K):=by
 intro pins s σ H x y v u Q I rx ry h
 obtain ⟨d,e,hd,he,sd,se,q⟩:=h
 obtain ⟨as,r1⟩:=Dp.reads I d x v hd rx
 obtain ⟨bs,r2⟩:=Dp.reads I e y u he ry
 exact SeqAt.compareEq_shaped r1 r2 sd se hu ⟨.bl _,H,I,rfl,q⟩
theorem op_neD (hu:X.A.units+64<cLine):OpR X (compareOp .NotEq) (rNeD X.K):=by
 intro pins s σ H x y v u Q I rx ry h
 obtain ⟨d,e,hd,he,sd,se,q⟩:=h
 obtain ⟨as,r1⟩:=Dp.reads I d x v hd rx
 obtain ⟨bs,r2⟩:=Dp.reads I e y u he ry
 exact SeqAt.compareNe_shaped r1 r2 sd se hu ⟨.bl _,H,I,rfl,q⟩
end
end L2
namespace L2
open PySem PySem.Spec PyProof.Rows
abbrev CellAt (h:Heap) (c:Addr) (v:Option Value):Prop:=h.IsCell c v
noncomputable def relS (scope sc:Scope):Scope:=
 { scope with names:=scope.names.map fun (n,k)=>if (k==.free&&sc.kind==.function&&sc.names.lookup n==some .cell) then (n,.cell) else (n,k) }
noncomputable def cloFrom (cells:List (Str×Addr)):List (Str×NameKind)→List (Str×Addr)→List (Str×Addr)
 | [],acc=>acc
 | (n,k)::r,acc=>if k==.free then cloFrom cells r ((n,(cells.lookup n).getD 0)::acc) else cloFrom cells r acc
theorem Z3h (env:Env) (f:Str×NameKind→List (Str×Addr)→Sem (ForInStep (List (Str×Addr))))
  (hf:∀ n k c,f (n,k) c=if k==.free then (do let a ← cellOf env n;pure (.yield ((n,a)::c))) else pure (.yield c)) :
  ∀ (names:List (Str×NameKind)) (acc:List (Str×Addr)),(∀ y∈names,y.2=.free→∃ c,env.cells.lookup y.1=some c)→forIn names acc f=pure (cloFrom env.cells names acc)
 | [],acc,_=>by rw[List.forIn_nil];rfl
 | (n,k)::r,acc,h=>by
  rw[List.forIn_cons,hf]
  have ih:=fun acc=>Z3h env f hf r acc fun y hy=>h y (List.mem_cons_of_mem _ hy)
  unfold cloFrom
  by_cases hk:(k==NameKind.free)=true
  ·rw[if_pos hk,if_pos hk]
   obtain ⟨c,hc⟩:=h (n,k) List.mem_cons_self (by simpa using hk)
   have e:cellOf env n=pure c:=by unfold cellOf;rw[hc]
   rw[e]
   have e2:(env.cells.lookup n).getD 0=c:=by rw[hc];rfl
   rw[e2]
   exact ih _
  ·rw[if_neg hk,if_neg hk]
   exact ih _
theorem Zdq {scope:Scope} {env:Env} (h:∀ y∈scope.names,y.2=.free→∃ c,env.cells.lookup y.1=some c):closureFor scope env=pure (cloFrom env.cells scope.names []):=by
 simp only[closureFor]
 rw[Z3h env _ (fun n k c=>rfl) scope.names [] h]
 rfl
theorem Z2x {α:Type}:∀ {l:List (Str×α)} {n:Str} {c:α},(n,c)∈l→∃ c',l.lookup n=some c'
 | (k,v)::r,n,c,h=>by
  rw[List.lookup_cons]
  cases hb:n==k with
  | true=>exact ⟨_,rfl⟩
  | false=>
   rcases List.mem_cons.mp h with e | h
   ·cases e;simp at hb
   ·exact Z2x h
theorem Wk {cells:List (Str×Addr)}:∀ {names:List (Str×NameKind)} {acc:List (Str×Addr)} {n:Str} {c:Addr},(n,c)∈cloFrom cells names acc→(n,c)∈acc∨((n,.free)∈names∧c=(cells.lookup n).getD 0)
 | [],_,_,_,h=>.inl h
 | (m,k)::r,acc,n,c,h=>by
  unfold cloFrom at h
  split at h
  ·rename_i hk
   have hk:k=.free:=by simpa using hk
   rcases Wk h with h | ⟨h1,h2⟩
   ·rcases List.mem_cons.mp h with e | h
    ·cases e;exact .inr ⟨hk ▸ List.mem_cons_self,rfl⟩
    ·exact .inl h
   ·exact .inr ⟨List.mem_cons_of_mem _ h1,h2⟩
  ·rcases Wk h with h | ⟨h1,h2⟩
   ·exact .inl h
   ·exact .inr ⟨List.mem_cons_of_mem _ h1,h2⟩
theorem Z1w {cells:List (Str×Addr)}:∀ {names:List (Str×NameKind)} {acc:List (Str×Addr)} {p:Str×Addr},p∈acc→p∈cloFrom cells names acc
 | [],_,_,h=>h
 | (m,k)::r,acc,p,h=>by
  unfold cloFrom
  split
  ·exact Z1w (List.mem_cons_of_mem _ h)
  ·exact Z1w h
theorem Z1v {cells:List (Str×Addr)}:∀ {names:List (Str×NameKind)} {acc:List (Str×Addr)} {n:Str},(n,.free)∈names→(n,(cells.lookup n).getD 0)∈cloFrom cells names acc
 | (m,k)::r,acc,n,h=>by
  unfold cloFrom
  rcases List.mem_cons.mp h with e | h
  ·cases e
   exact Z1w List.mem_cons_self
  ·split
   ·exact Z1v h
   ·exact Z1v h
theorem Z0k:∀ {names:List (Str×NameKind)} {h:Heap} {acc:List (Str×Addr)} {x:Str} {c:Addr},(x,c)∈cellsFrom h.objs.size names acc →
  (x,c)∈acc∨((x,.cell)∈names∧h.objs.size≤c∧CellAt (pushCells h names) c none)
 | [],_,_,_,_,h=>.inl h
 | (n,k)::r,h,acc,x,c,hm=>by
  unfold cellsFrom at hm
  unfold pushCells
  split at hm
  ·rename_i hk
   rw[if_pos hk]
   have hk:k=.cell:=by simpa using hk
   rw[← Heap.size_push h { cls:=.type "cell",data:=.cell none }] at hm
   rcases Z0k hm with hm | ⟨h1,h2,h3⟩
   ·rcases List.mem_cons.mp hm with e | hm
    ·cases e
     exact .inr ⟨hk ▸ List.mem_cons_self,Nat.le_refl _,_,pushCells_keeps r _ _ _ (Heap.get?_push_size _ rfl),rfl⟩
    ·exact .inl hm
   ·rw[Heap.size_push] at h2
    exact .inr ⟨List.mem_cons_of_mem _ h1,Nat.le_of_succ_le h2,h3⟩
  ·rename_i hk
   rw[if_neg hk]
   rcases Z0k hm with hm | ⟨h1,h2,h3⟩
   ·exact .inl hm
   ·exact .inr ⟨List.mem_cons_of_mem _ h1,h2,h3⟩
theorem Z2g:∀ {names:List (Str×NameKind)} {n:Nat} {acc:List (Str×Addr)} {p:Str×Addr},p∈acc→p∈cellsFrom n names acc
 | [],_,_,_,h=>h
 | (m,k)::r,n,acc,p,h=>by
  unfold cellsFrom
  split
  ·exact Z2g (List.mem_cons_of_mem _ h)
  ·exact Z2g h
theorem Z5k:∀ {names:List (Str×NameKind)} {n:Nat} {acc:List (Str×Addr)} {x:Str},(x,.cell)∈names→∃ c,(x,c)∈cellsFrom n names acc
 | (m,k)::r,n,acc,x,h=>by
  unfold cellsFrom
  rcases List.mem_cons.mp h with e | h
  ·cases e
   exact ⟨n,Z2g List.mem_cons_self⟩
  ·split
   ·exact Z5k h
   ·exact Z5k h
theorem Z5j:∀ {names:List (Str×NameKind)} {h:Heap} {acc:List (Str×Addr)} {x y:Str} {c:Addr},(∀ p∈acc,p.2<h.objs.size)→(∀ x y c,(x,c)∈acc→(y,c)∈acc→x=y) →
  (x,c)∈cellsFrom h.objs.size names acc→(y,c)∈cellsFrom h.objs.size names acc→x=y
 | [],_,_,_,_,_,_,hi,h1,h2=>hi _ _ _ h1 h2
 | (n,k)::r,h,acc,x,y,c,hl,hi,h1,h2=>by
  unfold cellsFrom at h1 h2
  split at h1
  ·rename_i hk
   rw[if_pos hk] at h2
   rw[← Heap.size_push h { cls:=.type "cell",data:=.cell none }] at h1 h2
   refine Z5j (h:=h.push _) (fun p hp=>?_) (fun x y c a b=>?_) h1 h2
   ·rw[Heap.size_push]
    rcases List.mem_cons.mp hp with rfl | hp
    ·exact Nat.lt_succ_self _
    ·exact Nat.lt_succ_of_lt (hl p hp)
   ·rcases List.mem_cons.mp a with e | a <;> rcases List.mem_cons.mp b with e' | b
    ·cases e;cases e';rfl
    ·cases e;exact absurd (hl _ b) (Nat.lt_irrefl _)
    ·cases e';exact absurd (hl _ a) (Nat.lt_irrefl _)
    ·exact hi _ _ _ a b
  ·rename_i hk
   rw[if_neg hk] at h2
   exact Z5j hl hi h1 h2
theorem Zav {M:Model} {A:Around} {E:Value→Shared→Prop} {s:Shared} {scope:Scope} {globals:Addr} {closure:List (Str×Addr)} {qual:Str} {func:Option Addr} {code:Value} {around:Env} {builtins:Addr} {Q:Env→Shared→Prop}
  (h:Q (newEnv scope s.heap.objs.size globals (cellsFrom (s.heap.objs.size+1) scope.names closure) qual func code (some around) builtins)
   { s with heap:=pushCells (s.heap.push { cls:=.type "dict",data:=.dict #[] }) scope.names }) :
  wpAny M A (newFunctionEnv scope globals closure [] qual func code (some around) builtins) Q E s:=by
 simp only[newFunctionEnv,Option.isSome_some,if_true]
 refine wpAny_bind (wpAny_alloc ?_)
 refine wpAny_bind (wpAny_layCells _ (fun n k c=>rfl) scope.names closure _ _ ?_)
 rw[show ({ s with heap:=s.heap.push { cls:=.type "dict",data:=.dict #[] } }:Shared).heap.objs.size=s.heap.objs.size+1 from Heap.size_push ..]
 rw[List.forIn_nil]
 exact wpAny_bind (wpAny_pure (wpAny_pure h))
theorem Z1n {sc:Scope}:∀ {names:List (Str×NameKind)} {x:Str} {k:NameKind},
  (names.map fun (n,k)=>if (k==NameKind.free&&sc.kind==.function&&sc.names.lookup n==some .cell) then (n,NameKind.cell) else (n,k)).lookup x=some k →
  ∃ k',names.lookup x=some k'∧(k=k'∨(k'=.free∧k=.cell))
 | [],_,_,h=>by simp at h
 | (n,k₀)::r,x,k,h=>by
  have ih:=@Z1n sc r x k
  have h':List.lookup x ((if (k₀==NameKind.free&&sc.kind==.function&&sc.names.lookup n==some .cell)=true then (n,NameKind.cell) else (n,k₀))::(r.map _))=some k:=h
  cases hx:x==n with
  | true=>
   simp only[List.lookup_cons,hx]
   by_cases hc:(k₀==NameKind.free&&sc.kind==.function&&sc.names.lookup n==some .cell)=true
   ·rw[if_pos hc] at h'
    simp only[List.lookup_cons,hx] at h'
    cases h'
    simp only[Bool.and_eq_true,beq_iff_eq] at hc
    exact ⟨k₀,rfl,.inr ⟨hc.1.1,rfl⟩⟩
   ·rw[if_neg hc] at h'
    simp only[List.lookup_cons,hx] at h'
    cases h'
    exact ⟨_,rfl,.inl rfl⟩
  | false=>
   simp only[List.lookup_cons,hx]
   by_cases hc:(k₀==NameKind.free&&sc.kind==.function&&sc.names.lookup n==some .cell)=true
   ·rw[if_pos hc] at h'
    simp only[List.lookup_cons,hx] at h'
    exact ih h'
   ·rw[if_neg hc] at h'
    simp only[List.lookup_cons,hx] at h'
    exact ih h'
structure BlkOk (N:List Str) (sc scope:Scope) (own:List (Str×Nat)):Prop where
 kind:scope.kind=.function
 uniq:∀ y∈scope.names,scope.names.lookup y.1=some y.2
 ix:∀ p∈own,N[p.2]?=some p.1
 free:∀ y∈scope.names,y.2=.free→sc.names.lookup y.1=some .cell∨sc.names.lookup y.1=some .free
 own:∀ y∈scope.names,y.2=.local∨y.2=.cell→y.1∈own.map (·.1)∨y.1 ∉ N
noncomputable def wipe (σ:St):List Nat→St
 | []=>σ
 | v::vs=>(wipe σ vs).set v none
theorem Z1a (σ:St):∀ vs:List Nat,(wipe σ vs).length=σ.length
 | []=>rfl
 | v::vs=>by unfold wipe;rw[List.length_set,Z1a σ vs]
theorem Z40 {σ:St} {i:Nat} {x:V}:∀ {vs:List Nat},(wipe σ vs)[i]?=some (some x)→σ[i]?=some (some x)∧i ∉ vs
 | [],h=>⟨h,by simp⟩
 | v::vs,h=>by
  unfold wipe at h
  by_cases hi:v=i
  ·subst hi
   by_cases hv:v<(wipe σ vs).length
   ·rw[List.getElem?_set_self hv] at h;cases h
   ·rw[List.getElem?_eq_none (by simpa using hv)] at h;cases h
  ·rw[List.getElem?_set_ne hi] at h
   obtain ⟨h1,h2⟩:=Z40 h
   exact ⟨h1,by simp only[List.mem_cons,not_or];exact ⟨fun e=>hi e.symm,h2⟩⟩
abbrev Cx.blk (X:Cx) (s:Shared) (H:Hp) (scope:Scope) (cenv:Env) (fp:List Addr):Cx:={ X with s_0:=s,H_0:=H,env:=cenv,outer:=X.stack,ex:=fp,fn:=fun x=>scope.names.lookup x==some .cell,pn:=[],xe:=fun _ _=>False }
section
variable {X:Cx} {pins:List (Addr×Obj)} {σ:St} {H:Hp} {s:Shared}
theorem Zb8 {scope:Scope} {own:List (Str×Nat)} {fp:List Addr} (I:Inv X pins σ H s) (ok:BlkOk X.N X.env.scope scope own) (hN:X.N.Nodup) (hfp:∀ b∈fp,FpOk X pins H b∧b<s.heap.objs.size) :
  Inv (X.blk s H scope (compEnvC scope (cellsFrom (s.heap.objs.size+1) scope.names (cloFrom X.env.cells scope.names [])) s.heap.objs.size X.env) fp) [] (wipe σ (own.map (·.2))) H { s with heap:=pushCells (s.heap.push { cls:=.type "dict",data:=.dict #[] }) scope.names }:=by
 have hfree:∀ y∈scope.names,y.2=.free→∃ c,X.env.cells.lookup y.1=some c:=fun y hy e=>by
  rcases ok.free y hy e with k | k
  ·exact I.ok.has _ (.inl k)
  ·exact I.ok.has _ (.inr k)
 generalize hcenv:compEnvC scope (cellsFrom (s.heap.objs.size+1) scope.names (cloFrom X.env.cells scope.names [])) s.heap.objs.size X.env=cenv
 have kp:∀ b o,s.heap.get? b=some o→(pushCells (s.heap.push { cls:=.type "dict",data:=.dict #[] }) scope.names).get? b=some o:=fun b o e=>pushCells_keeps _ _ _ _ (Heap.get?_push_of_some _ e)
 have hL:cenv.locals=s.heap.objs.size:=by rw[← hcenv];rfl
 have hcl:cenv.cells=cellsFrom (s.heap.objs.size+1) scope.names (cloFrom X.env.cells scope.names []):=by rw[← hcenv];rfl
 have hsc:cenv.scope=relS scope X.env.scope:=by rw[← hcenv];rfl
 rw[← Heap.size_push s.heap { cls:=.type "dict",data:=.dict #[] }] at hcl
 have cm:∀ {y c},(y,c)∈cloFrom X.env.cells scope.names []→X.env.cells.lookup y=some c∧c<s.heap.objs.size:=fun {y c} hm=>by
  rcases Wk hm with hm | ⟨h1,rfl⟩
  ·cases hm
  ·obtain ⟨c,hc⟩:=hfree _ h1 rfl
   rw[hc]
   obtain ⟨w,z⟩:=I.cell _ _ hc
   exact ⟨rfl,z.lt⟩
 have mem:∀ {y c},cenv.cells.lookup y=some c→(X.env.cells.lookup y=some c∧c<s.heap.objs.size)∨(s.heap.objs.size+1≤c∧CellAt (pushCells (s.heap.push { cls:=.type "dict",data:=.dict #[] }) scope.names) c none):=fun {y c} e=>by
  rw[hcl] at e
  rcases Z0k (PySem.mem_of_lookup e) with hm | ⟨_,h2,h3⟩
  ·exact .inl (cm hm)
  ·rw[Heap.size_push] at h2;exact .inr ⟨h2,h3⟩
 have look:∀ {y},scope.names.lookup y=some .free→∃ c,cenv.cells.lookup y=some c∧X.env.cells.lookup y=some c:=fun {y} hl=>by
  have hy:(y,NameKind.free)∈scope.names:=PySem.mem_of_lookup hl
  obtain ⟨c',e'⟩:=Z2x (Z2g (names:=scope.names) (n:=(s.heap.push { cls:=.type "dict",data:=.dict #[] }).objs.size) (Z1v (cells:=X.env.cells) (acc:=[]) hy))
  rw[← hcl] at e'
  refine ⟨c',e',?_⟩
  rw[hcl] at e'
  rcases Z0k (PySem.mem_of_lookup e') with hm | ⟨h1,_,_⟩
  ·exact (cm hm).1
  ·have:=ok.uniq _ h1
   rw[hl] at this;cases this
 have okB:(X.blk s H scope cenv fp).Ok:=by
  refine ⟨I.ok.mod,by show cenv.scope.kind=_;rw[hsc];exact ok.kind,by show cenv.globals=_;rw[← hcenv];exact I.ok.glob,by show cenv.builtins=_;rw[← hcenv];exact I.ok.blt,by show s.heap.objs.size≤cenv.locals;rw[hL];exact Nat.le_refl _,
   fun y z c e1 e2=>?_,fun y hy=>?_,fun y c z e=>?_,I.ok.hd,I.ok.frames,.inl rfl,fun b hb=>⟨?_,fun y c e z=>?_⟩,I.bs,Nat.le_trans I.ok.bsz I.sz,fun b o e hb=>?_,fun b hb z=>?_,I.stack,I.stkFree⟩
  ·have e1:cenv.cells.lookup y=some c:=e1
   have e2:cenv.cells.lookup z=some c:=e2
   rw[hcl] at e1 e2
   refine Z5j (fun p hp=>?_) (fun y z c a b=>I.ok.inj y z c (cm a).1 (cm b).1) (PySem.mem_of_lookup e1) (PySem.mem_of_lookup e2)
   rw[Heap.size_push]
   exact Nat.lt_succ_of_lt (cm (y:=p.1) (c:=p.2) hp).2
  ·show ∃ c,cenv.cells.lookup y=some c
   have key:∀ k,cenv.kindOf y=some k→(k=.cell∨k=.free)→∃ c,cenv.cells.lookup y=some c:=fun k hk hk'=>by
    unfold Env.kindOf at hk
    rw[hsc] at hk
    obtain ⟨k',e,r⟩:=Z1n hk
    have:k'=.cell∨k'=.free:=by
     rcases r with rfl | ⟨rfl,_⟩
     ·exact hk'
     ·exact .inr rfl
    rcases this with rfl | rfl
    ·obtain ⟨c,hm⟩:=Z5k (n:=(s.heap.push { cls:=.type "dict",data:=.dict #[] }).objs.size) (acc:=cloFrom X.env.cells scope.names []) (PySem.mem_of_lookup e)
     obtain ⟨c',e'⟩:=Z2x hm
     exact ⟨c',by rw[hcl];exact e'⟩
    ·obtain ⟨c,h1,_⟩:=look e
     exact ⟨c,h1⟩
   rcases hy with hy | hy
   ·exact key _ hy (.inl rfl)
   ·exact key _ hy (.inr rfl)
  ·have z:(scope.names.lookup y==some NameKind.cell)=true:=z
   have z:scope.names.lookup y=some .cell:=by simpa using z
   have e:cenv.cells.lookup y=some c:=e
   rw[hcl] at e
   rcases Z0k (PySem.mem_of_lookup e) with hm | ⟨_,h2,_⟩
   ·rcases Wk hm with hm | ⟨h1,_⟩
    ·cases hm
    ·have q:=ok.uniq _ h1
     rw[z] at q;cases q
   ·rw[Heap.size_push] at h2
    exact Nat.le_of_succ_le h2
  ·show b≠cenv.locals
   rw[hL];exact Nat.ne_of_lt (hfp b hb).2
  ·have e:cenv.cells.lookup y=some c:=e
   rcases mem e with ⟨h1,_⟩ | ⟨h1,_⟩
   ·exact (hfp b hb).1.2.2.2.2.1 y c h1 z
   ·have h2:s.heap.objs.size+1≤b:=by rw[← z];exact h1
    exact absurd (Nat.lt_of_lt_of_le (hfp b hb).2 (Nat.le_of_succ_le h2)) (Nat.lt_irrefl _)
  ·rcases (hfp b hb).1.2.2.2.1 with z | z
   ·exact I.ok.noex b o e z
   ·exact absurd (Nat.lt_of_lt_of_le (Heap.lt_size e) (Nat.le_trans I.ok.bsz z)) (Nat.lt_irrefl _)
  ·rcases List.mem_cons.mp (I.stkSub b z) with z | z
   ·exact (hfp b hb).1.2.1 z
   ·exact (hfp b hb).1.2.2.1 z
 refine ⟨okB,rfl,I.bare,Un.kept kp,⟨fun _=>none,?_,fun i y av e1 e2 e3=>?_⟩,fun y c e=>?_,?_,fun y c e=>?_,fun p hp=>?_,I.hok.kept kp,by rw[Z1a];exact I.len⟩
 ·show Heap.Ns _ cenv.locals _
  rw[hL]
  exact Heap.Ns.keeps (Heap.Ns.new ..) fun b o e=>pushCells_keeps _ _ _ _ e
 ·obtain ⟨e2,hne⟩:=Z40 e2
  have hfr:scope.names.lookup y=some .free∧(cenv.kindOf y=some .cell∨cenv.kindOf y=some .free):=by
   have key:∀ k,cenv.scope.names.lookup y=some k→k=.local∨k=.cell∨k=.free→scope.names.lookup y=some .free∧(cenv.kindOf y=some .cell∨cenv.kindOf y=some .free):=fun k hk hk'=>by
    have hk0:=hk
    rw[hsc] at hk
    obtain ⟨k',e,r⟩:=Z1n hk
    have no:¬ (k'=.local∨k'=.cell):=fun hh=>by
     rcases ok.own _ (PySem.mem_of_lookup e) hh with e' | e'
     ·obtain ⟨p,hp,hpy⟩:=List.mem_map.mp e'
      have e3:=ok.ix p hp
      have:p.1=y:=hpy
      rw[this] at e3
      exact hne (List.mem_map.mpr ⟨p,hp,Z8i hN e3 e1⟩)
     ·exact e' (List.mem_of_getElem? e1)
    rcases r with rfl | ⟨rfl,rfl⟩
    ·rcases hk' with rfl | rfl | rfl
     ·exact absurd (.inl rfl) no
     ·exact absurd (.inr rfl) no
     ·exact ⟨e,.inr hk0⟩
    ·exact ⟨e,.inl hk0⟩
   have e3:Vis cenv.scope y:=e3
   rcases e3 with e3 | e3 | e3
   ·exact key _ e3 (.inl rfl)
   ·exact key _ e3 (.inr (.inl rfl))
   ·exact key _ e3 (.inr (.inr rfl))
  obtain ⟨m,hn,hl⟩:=I.loc
  have hvis:Vis X.env.scope y:=(ok.free _ (PySem.mem_of_lookup hfr.1) rfl).elim (fun k=>.inr (.inl k)) (fun k=>.inr (.inr k))
  obtain ⟨w,r,q⟩:=hl i y av e1 e2 hvis
  refine ⟨w,r,.inr ⟨hfr.2,?_⟩⟩
  obtain ⟨c,h1,h2⟩:=look hfr.1
  rcases q with ⟨k,_⟩ | ⟨_,c',e',z⟩
  ·have k:X.env.scope.names.lookup y=some .local:=k
   rcases ok.free _ (PySem.mem_of_lookup hfr.1) rfl with k' | k' <;> rw[show X.env.scope.names.lookup y=_ from k'] at k <;> cases k
  ·rw[h2] at e';cases e'
   exact ⟨c,h1,z.keeps kp⟩
 ·have e:cenv.cells.lookup y=some c:=e
  rcases mem e with ⟨h1,_⟩ | ⟨_,z⟩
  ·obtain ⟨w,z⟩:=I.cell y c h1
   exact ⟨w,z.keeps kp⟩
  ·exact ⟨_,z⟩
 ·show H cenv.locals=none
  rw[hL];exact I.hok.fresh (Nat.le_refl _)
 ·have e:cenv.cells.lookup y=some c:=e
  rcases mem e with ⟨h1,_⟩ | ⟨h1,_⟩
  ·exact I.freeC y c h1
  ·exact I.hok.fresh (Nat.le_of_succ_le h1)
 ·exact absurd (show p∈([]:List (Addr×Obj))++[] from hp) (by simp)
theorem app_ok {E:Value→Shared→Prop} {D:Addr} {xs:List V} {y:V} {v:Value} {Q:Value→Shared→Prop} (I:Inv X pins σ H s) (hD:H D=some (.lst xs)) (hz:xs.length<sizeLine) (r:RelV y v)
  (h:∀ s',Inv X pins σ (upd H D (.lst (xs++[y]))) s'→Q .none s'):wpAny (model X.prog X.w) X.A (call (.builtin "list.append") [.ref D,v]) Q E s:=by
 obtain ⟨hz',its,n,ri,e⟩:=I.hok D _ hD
 have hl:=ri.length
 refine append_at (hsz:=by rw[List.size_toArray];omega) e fun h' sb ho'=>?_
 refine h { s with heap:=h' } (I.write (t':=s.toks) (by rw[hD];trivial) (.inl rfl) (fun b u hb q=>(sb.2 b hb).trans q) ⟨_,ho'⟩ ⟨by rw[List.length_append];exact hz,its++[v],n+1,ri.append (.cons r .nil),?_⟩)
 rw[ho']
 simp
def PTs (X:Cx) (ifs:List Expr) (t:TT):Prop:=
 ∀ (pins:List (Addr×Obj)) (s:Shared) (σ:St) (H:Hp) (Q:Bool→Hp→Prop),Inv X pins σ H s→t σ H Q →
  wpAny (model X.prog X.w) X.A (forIn ifs true fun c r=>if r=true then do let ok ← isTrue c X.env (eval c X.env);pure (ForInStep.yield ok) else pure (ForInStep.yield r)) (TP X pins σ Q) X.xe s
noncomputable def tYes:TT:=fun _ H Q=>Q true H
theorem Z1j:PTs X [] tYes:=fun _ _ _ H _ I h=>wpAny_tests_nil ⟨H,I,h⟩
theorem Z83 {c:Expr} {t:TT} (h:PT X c t):PTs X [c] t:=fun pins s σ H Q I hw=>wpAny_tests_one (h pins s σ H Q I hw)
end
theorem thnF {α:Type} {t:Sem α} {Q Q':α→Shared→Prop} {M:Model} {A:Around} {E:Value→Shared→Prop} {s:Shared} (h:wpAny M A t Q (fun _ _=>False) s) (hQ:∀ a s,Q a s→Q' a s):wpAny M A t Q' E s:=wpAny_mono h hQ fun _ _ z=>False.elim z
theorem Z9o {prog:Program} {w:World} {A:Around} {R:Result→Shared→Prop} {s:Shared} {elt target iter:Expr} {ifs:List Expr} {scope:Scope} {pos:Pos} {it acc:Value} {env:Env} (I:Nat→Shared→Prop)
  (turn:∀ n s,I n s→wpAny (model prog w) A (pyNext it) (fun r s₁=>match r with
   | none=>R (.ok .next) s₁
   | some v=>wpAny (model prog w) A (letOwnedTupleGo target it v) (fun _ s₁'=>wpAny (model prog w) A (assign target env v) (fun _ s₂=>
     wpAny (model prog w) A (forIn ifs true fun c r=>if r=true then do let ok ← isTrue c env (eval c env);pure (ForInStep.yield ok) else pure (ForInStep.yield r)) (fun ok s₃=>
      if ok=true then wpAny (model prog w) A (eval elt env) (fun x s₄=>
       wpAny (model prog w) A (call (.builtin "list.append") [acc,x]) (fun _ s₅=>∃ m,m<n∧I m s₅) (notedBy (model prog w) A env fun e s'=>R (.error e) s') s₄) (notedBy (model prog w) A env fun e s'=>R (.error e) s') s₃
      else ∃ m,m<n∧I m s₃) (notedBy (model prog w) A env fun e s'=>R (.error e) s') s₂) (notedBy (model prog w) A env fun e s'=>R (.error e) s') s₁') (notedBy (model prog w) A env fun e s'=>R (.error e) s') s₁) (notedBy (model prog w) A env fun e s'=>R (.error e) s') s)
  (n:Nat) (h:I n s) :
  codeAny (model prog w) A (.compLoop (.ListComp elt [⟨target,iter,ifs,0⟩] scope pos) 0 it acc env) R s:=by
 refine codeAny_loop rfl I (fun n s hI=>?_) n h
 show wpAny _ A ((compTurn (.ListComp elt [⟨target,iter,ifs,0⟩] scope pos) 0 it acc env).onRaise (fun x=>do noteFrame x env;theTreesLotGoes x)) _ _ s
 refine wpAny_noted ?_
 rw[compTurn_list]
 refine wpAny_bind (wpAny_standAt (wpAny_bind (wpAny_mono (turn n s hI) (fun r s₁ h₁=>?_) fun _ _ h'=>h')))
 cases r with
 | none=>exact wpAny_pure h₁
 | some v=>
  refine wpAny_bind (wpAny_mono h₁ (fun _ s₁' h₁'=>?_) fun _ _ h'=>h')
  refine wpAny_bind (wpAny_mono h₁' (fun _ s₂ h₂=>wpAny_bind (wpAny_mono h₂ (fun ok s₃ h₃=>?_) fun _ _ h'=>h')) fun _ _ h'=>h')
  cases ok with
  | false=>exact wpAny_pure ⟨rfl,h₃⟩
  | true=>
   exact wpAny_bind (wpAny_bind (wpAny_mono h₃ (fun x s₄ h₄=>wpAny_bind (wpAny_mono h₄ (fun _ s₅ h₅=>wpAny_pure (wpAny_pure ⟨rfl,h₅⟩)) fun _ _ h'=>h')) fun _ _ h'=>h'))
section
variable {X:Cx}
def tLc (wi:TI) (g:TG) (tt:TT) (te:TE) (vs:List Nat):TE:=fun σ H Q=>wi σ H fun J H1=>∀ D,H1 D=none→∃ W:Nat→Nat→Hp→Prop,(∃ m,W 0 m (upd H1 D (.lst [])))∧∀ i m H,W i m H →
 (J.stop i H∧Q (.ref D) H)∨(J.go i H∧∃ Nx:Hp→Prop,(∀ H',Nx H'→∃ m',m'<m∧W (i+1) m' H')∧∀ x H',J.yld i H x H'→g x (wipe σ vs) H' fun σ2 H2=>wipe σ2 vs=wipe σ vs∧tt σ2 H2 fun b H3=>
  if b=true then te σ2 H3 fun y H4=>∃ acc,H4 D=some (.lst acc)∧acc.length<sizeLine∧Nx (upd H4 D (.lst (acc++[y]))) else Nx H3)
theorem lc_core {pins:List (Addr×Obj)} {s:Shared} {σ:St} {H:Hp} {Q:VK} {elt tg iter:Expr} {ifs:List Expr} {scope:Scope} {own:List (Str×Nat)} {pos pos':Pos} {wi:TI} {g:TG} {tt:TT} {te:TE} {use:Option (Value→Sem Unit)} {Qf:Value→Shared→Prop}
  (hc:X.calm=true) (hN:X.N.Nodup) (I:Inv X pins σ H s) (hi:PI X tg iter wi) (ok:BlkOk X.N X.env.scope scope own)
  (hg:∀ (s:Shared) (H:Hp) (C:Addr) (cl:List (Str×Addr)) (fp:List Addr),PG (X.blk s H scope (compEnvC scope cl C X.env) fp) tg g) (ht:∀ (s:Shared) (H:Hp) (C:Addr) (cl:List (Str×Addr)) (fp:List Addr),PTs (X.blk s H scope (compEnvC scope cl C X.env) fp) ifs tt)
  (he:∀ (s:Shared) (H:Hp) (C:Addr) (cl:List (Str×Addr)) (fp:List Addr),PE (X.blk s H scope (compEnvC scope cl C X.env) fp) elt te) (hs:∀ x,foldedSetIterable iter X.env x=pure x)
  (h:tLc wi g tt te (own.map (·.2)) σ H Q)
  (hRR:∀ D C s' m H',Inv X pins σ H' s'→Q (.ref D) H'→s'.heap.Ns C m→FpOk X pins H' C→compPost (model X.prog X.w) X.A X.xe use Qf (.ref D) C (.ok .next) s') :
  wpAny (model X.prog X.w) X.A (comprehension (.ListComp elt [⟨tg,iter,ifs,0⟩] scope pos) scope X.env pos' (newList []) false (eval iter X.env) use) Qf X.xe s:=by
 have hfree:∀ y∈scope.names,y.2=.free→∃ c,X.env.cells.lookup y.1=some c:=fun y hy e=>by
  rcases ok.free y hy e with k | k
  ·exact I.ok.has _ (.inl k)
  ·exact I.ok.has _ (.inr k)
 refine wpAny_comprehension_free (use:=use) rfl hs (Zdq hfree) ok.kind (fun y hy e=>by rw[ok.uniq y hy,e])
  (thn (hi pins s σ H _ I h) fun xv s1 hx=>thn hx fun itv s2 h2=>?_)
 obtain ⟨it,fp,tn,J,H2,e,I2,T,st2,f2,q⟩:=h2
 subst e
 refine wpAny_newObj_type (Zav ?_) (by show 0≤sizeLine;decide)
 generalize hD:s2.heap.objs.size=D
 have hDn:H2 D=none:=I2.hok.fresh (Nat.le_of_eq hD)
 obtain ⟨W,⟨m0,w0⟩,turn⟩:=q D hDn
 generalize hs3:({ s2 with heap:=s2.heap.push { cls:=.type "list",data:=.seq ([]:List Value).toArray } }:Shared)=s3
 have I3:Inv X pins σ (upd H2 D (.lst [])) s3:=by
  rw[← hs3]
  refine I2.laid (t':=s2.toks) (fun b o e=>Heap.get?_push_of_some _ e) (Nat.le_of_eq hD) ⟨Nat.zero_le _,[],0,.nil,?_⟩
  rw[← hD]
  exact Heap.get?_push_size _ rfl
 have h3:s3.heap=s2.heap.push { cls:=.type "list",data:=.seq ([]:List Value).toArray }:=by rw[← hs3]
 have sz:∀ b∈fp,b<s2.heap.objs.size:=fun b hb=>by
  obtain ⟨o,e,_⟩:=T.obj _ _ st2 b hb
  exact Heap.lt_size e
 have f3:∀ b∈fp,FpOk X pins (upd H2 D (.lst [])) b∧b<s3.heap.objs.size:=fun b hb=>by
  have hlt:=sz b hb
  refine ⟨⟨?_,(f2 b hb).2⟩,by rw[h3,Heap.size_push];exact Nat.lt_succ_of_lt hlt⟩
  rw[Z8 (by rw[← hD];exact Nat.ne_of_lt hlt)]
  exact (f2 b hb).1
 have st3:tn 0 s3.heap:=T.keep _ _ _ st2 fun b _ o e=>by rw[h3];exact Heap.get?_push_of_some _ e
 have I4:=Zb8 I3 ok hN f3
 have pg:=hg s3 (upd H2 D (.lst [])) s3.heap.objs.size (cellsFrom (s3.heap.objs.size+1) scope.names (cloFrom X.env.cells scope.names [])) fp
 have pt:=ht s3 (upd H2 D (.lst [])) s3.heap.objs.size (cellsFrom (s3.heap.objs.size+1) scope.names (cloFrom X.env.cells scope.names [])) fp
 have pe:=he s3 (upd H2 D (.lst [])) s3.heap.objs.size (cellsFrom (s3.heap.objs.size+1) scope.names (cloFrom X.env.cells scope.names [])) fp
 show codeAny _ _ (.compStart (.ListComp elt [⟨tg,iter,ifs,0⟩] scope pos) 0 (.ref it) (.ref D) (compEnvC scope (cellsFrom (s3.heap.objs.size+1) scope.names (cloFrom X.env.cells scope.names [])) s3.heap.objs.size X.env)) (compPost (model X.prog X.w) X.A X.xe use Qf (.ref D) s3.heap.objs.size) { s3 with heap:=pushCells (s3.heap.push { cls:=.type "dict",data:=.dict #[] }) scope.names }
 have nfp:∀ b∈fp,(upd H2 D (.lst [])) b=none:=fun b hb=>(f3 b hb).1.1
 generalize hce:compEnvC scope (cellsFrom (s3.heap.objs.size+1) scope.names (cloFrom X.env.cells scope.names [])) s3.heap.objs.size X.env=ce at I4 pg pt pe ⊢
 have cL:ce.locals=s3.heap.objs.size:=by subst hce;rfl
 generalize hH3:upd H2 D (.lst [])=H3 at I3 I4 pg pt pe w0 nfp f3
 generalize hs4:({ s3 with heap:=pushCells (s3.heap.push { cls:=.type "dict",data:=.dict #[] }) scope.names }:Shared)=s4 at I4 ⊢
 have st4:tn 0 s4.heap:=T.keep _ _ _ st3 fun b _ o e=>by rw[← hs4];exact pushCells_keeps _ _ _ _ (Heap.get?_push_of_some _ e)
 have stat:∀ {σ':St} {H':Hp} {s':Shared},Inv (X.blk s3 H3 scope ce fp) [] σ' H' s'→(∀ b∈fp,H' b=none)→∀ b∈fp,FpOk (X.blk s3 H3 scope ce fp) [] H' b:=fun {σ' H' s'} I' hn b hb=>
  ⟨hn b hb,(I'.ok.exf b hb).1,I'.ok.exfs b hb,.inl hb,fun x c e=>(I'.ok.exf b hb).2 x c e,fun p hp=>absurd (show p∈([]:List (Addr×Obj))++[] from hp) (by simp)⟩
 have loop:codeAny (model X.prog X.w) X.A (.compLoop (.ListComp elt [⟨tg,iter,ifs,0⟩] scope pos) 0 (.ref it) (.ref D) ce) (compPost (model X.prog X.w) X.A X.xe use Qf (.ref D) s3.heap.objs.size) s4:=by
  refine Z9o (fun n s'=>∃ i H',Inv (X.blk s3 H3 scope ce fp) [] (wipe σ (own.map (·.2))) H' s'∧tn i s'.heap∧(∀ b∈fp,H' b=none)∧W i n H') ?_ m0 ⟨0,H3,I4,st4,nfp,w0⟩
  rintro n s5 ⟨i,H5,I5,st5,n5,w5⟩
  rcases turn i n H5 w5 with ⟨stop,qq⟩ | ⟨go,Nx,hNx,step⟩
  ·have td:=T.done (X.blk s3 H3 scope ce fp) rfl rfl rfl hc i [] s5 _ H5 (fun _ _=>False) I5 (stat I5 n5) st5 stop
   refine thnF td fun r s6 ⟨hr,I6⟩=>?_
   subst hr
   have I7:Inv X pins σ H5 s6:=I3.call' (ch:=fp) I6.os I6.base I6.hok I6.bare fun b hb=>⟨(f3 b hb).1.2.2.2.1,(f3 b hb).1.2.1,(f3 b hb).1.2.2.2.2.1,(f3 b hb).1.2.2.2.2.2⟩
   have nC:H5 s3.heap.objs.size=none:=by
    have z:H5 ce.locals=none:=I6.free
    rw[cL] at z
    exact z
   obtain ⟨m,hn,_⟩:=I6.loc
   have hn:s6.heap.Ns ce.locals m:=hn
   rw[cL] at hn
   exact hRR D s3.heap.objs.size s6 m H5 I7 qq hn (I3.fpOk (Nat.le_refl _) nC)
  ·have ti:=T.item (X.blk s3 H3 scope ce fp) rfl rfl rfl hc i [] s5 _ H5 (fun _ _=>False) I5 (stat I5 n5) st5 go
   refine thnF ti fun r s6 ⟨u,hr,h6⟩=>?_
   subst hr
   refine thnF h6 fun _ s7 ⟨x,H7,I7,r7,y7,st7,n7⟩=>?_
   have I7':=I7.pinned (stat I7 n7) (T.obj _ _ st7)
   refine thnF (pg _ s7 _ H7 x u _ I7' r7 (step x H7 y7)) fun _ s8 ⟨σ8,H8,I8,hw8,q8⟩=>?_
   refine thnF (pt _ s8 σ8 H8 _ I8 q8) fun b s9 ⟨H9,I9,q9⟩=>?_
   have fin:∀ {s':Shared} {H':Hp},Inv (X.blk s3 H3 scope ce fp) ([]++pinsAt fp s7.heap) σ8 H' s'→Nx H'→∃ m,m<n∧∃ i H',Inv (X.blk s3 H3 scope ce fp) [] (wipe σ (own.map (·.2))) H' s'∧tn i s'.heap∧(∀ b∈fp,H' b=none)∧W i m H':=fun {s' H'} I' nx=>by
    obtain ⟨m',hm,w'⟩:=hNx H' nx
    have pin':∀ b∈fp,∀ o,s7.heap.get? b=some o→s'.heap.get? b=some o∧H' b=none:=fun b hb o e=>
     let z:=I'.pin (b,o) (List.mem_append_right _ (List.mem_append_right _ (Z2w hb e)))
     ⟨z.1,z.2.1⟩
    have hl:(wipe σ (own.map (·.2))).length=σ8.length:=by rw[← hw8,Z1a]
    refine ⟨m',hm,i+1,H',(I'.unpinned (pins:=[])).weak hl (fun j v e=>?_),T.keep _ _ _ st7 fun b hb o e=>(pin' b hb o e).1,fun b hb=>?_,w'⟩
    ·rw[← hw8] at e
     exact (Z40 e).1
    ·obtain ⟨o,e,_⟩:=T.obj _ _ st7 b hb
     exact (pin' b hb o e).2
   cases b with
   | false=>
    simp only[Bool.false_eq_true,if_false] at q9 ⊢
    exact fin I9 q9
   | true=>
    simp only[if_true] at q9 ⊢
    refine thnF (pe _ s9 σ8 H9 _ I9 q9) fun z s10 ⟨yv,H10,I10,r10,acc,hD10,hz10,nx⟩=>?_
    exact app_ok (X:=X.blk s3 H3 scope ce fp) I10 hD10 hz10 r10 fun s11 I11=>fin I11 nx
 exact codeAny_compStart_list loop (T.self X.A 0 _ _ _ st4 loop)
theorem pe_lc {elt tg iter:Expr} {ifs:List Expr} {scope:Scope} {own:List (Str×Nat)} {pos:Pos} {wi:TI} {g:TG} {tt:TT} {te:TE} (hc:X.calm=true) (hN:X.N.Nodup) (hi:PI X tg iter wi) (ok:BlkOk X.N X.env.scope scope own)
  (hg:∀ (s:Shared) (H:Hp) (C:Addr) (cl:List (Str×Addr)) (fp:List Addr),PG (X.blk s H scope (compEnvC scope cl C X.env) fp) tg g) (ht:∀ (s:Shared) (H:Hp) (C:Addr) (cl:List (Str×Addr)) (fp:List Addr),PTs (X.blk s H scope (compEnvC scope cl C X.env) fp) ifs tt)
  (he:∀ (s:Shared) (H:Hp) (C:Addr) (cl:List (Str×Addr)) (fp:List Addr),PE (X.blk s H scope (compEnvC scope cl C X.env) fp) elt te) (hs:∀ x,foldedSetIterable iter X.env x=pure x:=by intro _;rfl) :
  PE X (.ListComp elt [⟨tg,iter,ifs,0⟩] scope pos) (tLc wi g tt te (own.map (·.2))):=by
 intro pins s σ H Q I h
 rw[eval_ListComp]
 refine lc_core hc hN I hi ok hg ht he hs h fun D C s' m H' I' q hn f=>⟨m,hn,fun h'' sb=>?_⟩
 obtain ⟨f0,f1,f2,f3,f4,f5⟩:=f
 exact ⟨.ref D,H',I'.turned (t':=s'.toks) (fun b o hb e=>(sb.2 b hb).trans e) f0 f1 f3 f4 f5,rfl,q⟩
end
theorem Z8k {lo:Int} {n:Nat} {g:TG} {tt:TT} {te:TE} {vs:List Nat} {σ:St} {H1:Hp} {D:Addr} {Qd:Hp→Prop} (Pv:Nat→Hp→Prop) (h0:Pv 0 (upd H1 D (.lst [])))
  (hs:∀ i H,i<n→Pv i H→g (.int (lo+i)) (wipe σ vs) H fun σ2 H2=>wipe σ2 vs=wipe σ vs∧tt σ2 H2 fun b H3=>
   if b=true then te σ2 H3 fun y H4=>∃ acc,H4 D=some (.lst acc)∧acc.length<sizeLine∧Pv (i+1) (upd H4 D (.lst (acc++[y]))) else Pv (i+1) H3) (hd:∀ H,Pv n H→Qd H) :
  ∃ W:Nat→Nat→Hp→Prop,(∃ m,W 0 m (upd H1 D (.lst [])))∧∀ i m H,W i m H →
   ((Itr lo n).stop i H∧Qd H)∨((Itr lo n).go i H∧∃ Nx:Hp→Prop,(∀ H',Nx H'→∃ m',m'<m∧W (i+1) m' H')∧∀ x H',(Itr lo n).yld i H x H'→g x (wipe σ vs) H' fun σ2 H2=>wipe σ2 vs=wipe σ vs∧tt σ2 H2 fun b H3=>
    if b=true then te σ2 H3 fun y H4=>∃ acc,H4 D=some (.lst acc)∧acc.length<sizeLine∧Nx (upd H4 D (.lst (acc++[y]))) else Nx H3):=by
 refine ⟨fun i m H=>m=n-i∧i≤n∧Pv i H,⟨n,by simp,Nat.zero_le _,h0⟩,?_⟩
 rintro i m H ⟨rfl,hi,p⟩
 by_cases hlt:i<n
 ·refine .inr ⟨hlt,Pv (i+1),fun H' p'=>⟨n-(i+1),by omega,rfl,hlt,p'⟩,fun x H' y=>?_⟩
  obtain ⟨e,y⟩:=y
  subst e y
  exact hs i _ hlt p
 ·have e:i=n:=by omega
  subst e
  exact .inl ⟨Nat.le_refl _,hd H p⟩
theorem Z59 {K:PySem.W.Frag} {a:Addr} {xs:List V} {g:TG} {tt:TT} {te:TE} {vs:List Nat} {σ:St} {H1:Hp} {D:Addr} {Qd:Hp→Prop} (Pv:Nat→Hp→Prop) (h0:Pv 0 (upd H1 D (.lst []))) (hl:∀ i H,i≤xs.length→Pv i H→SqL K H a xs)
  (hs:∀ i x H,xs[i]?=some x→Pv i H→g x (wipe σ vs) H fun σ2 H2=>wipe σ2 vs=wipe σ vs∧tt σ2 H2 fun b H3=>
   if b=true then te σ2 H3 fun y H4=>∃ acc,H4 D=some (.lst acc)∧acc.length<sizeLine∧Pv (i+1) (upd H4 D (.lst (acc++[y]))) else Pv (i+1) H3) (hd:∀ H,Pv xs.length H→Qd H) :
  ∃ W:Nat→Nat→Hp→Prop,(∃ m,W 0 m (upd H1 D (.lst [])))∧∀ i m H,W i m H →
   ((Itl K a).stop i H∧Qd H)∨((Itl K a).go i H∧∃ Nx:Hp→Prop,(∀ H',Nx H'→∃ m',m'<m∧W (i+1) m' H')∧∀ x H',(Itl K a).yld i H x H'→g x (wipe σ vs) H' fun σ2 H2=>wipe σ2 vs=wipe σ vs∧tt σ2 H2 fun b H3=>
    if b=true then te σ2 H3 fun y H4=>∃ acc,H4 D=some (.lst acc)∧acc.length<sizeLine∧Nx (upd H4 D (.lst (acc++[y]))) else Nx H3):=by
 refine ⟨fun i m H=>m=xs.length-i∧i≤xs.length∧Pv i H,⟨xs.length,by simp,Nat.zero_le _,h0⟩,?_⟩
 rintro i m H ⟨rfl,hi,p⟩
 have q:=hl i H hi p
 by_cases hlt:i<xs.length
 ·refine .inr ⟨⟨xs,xs[i],q,by simp[hlt]⟩,Pv (i+1),fun H' p'=>⟨xs.length-(i+1),by omega,rfl,hlt,p'⟩,fun x H' y=>?_⟩
  obtain ⟨e,y⟩:=y
  subst e
  exact hs i x _ (y xs q) p
 ·have e:i=xs.length:=by omega
  subst e
  exact .inl ⟨⟨xs,q,Nat.le_refl _⟩,hd H p⟩
noncomputable def blkC (N:List Str) (sc scope:Scope) (own:List (Str×Nat)):Bool:=
 (match scope.kind with | .function=>true | _=>false)&&(scope.names.all fun y=>decide (scope.names.lookup y.1=some y.2))&&(own.all fun p=>decide (N[p.2]?=some p.1)) &&
  (scope.names.all fun y=>match y.2 with
   | .free=>(match sc.names.lookup y.1 with | some .cell=>true | some .free=>true | _=>false)
   | .local=>decide (y.1∈own.map (·.1))||decide (y.1 ∉ N)
   | .cell=>decide (y.1∈own.map (·.1))||decide (y.1 ∉ N)
   | _=>true)
theorem Xw {N:List Str} {sc scope:Scope} {own:List (Str×Nat)} (h:blkC N sc scope own=true):BlkOk N sc scope own:=by
 unfold blkC at h
 simp only[Bool.and_eq_true,List.all_eq_true,decide_eq_true_eq] at h
 obtain ⟨⟨⟨h1,h2⟩,h3⟩,h4⟩:=h
 refine ⟨?_,h2,h3,fun y hy e=>?_,fun y hy e=>?_⟩
 ·split at h1
  ·assumption
  ·cases h1
 ·have q:=h4 y hy
  simp only[e] at q
  split at q <;> first | exact .inl (by assumption) | exact .inr (by assumption) | cases q
 ·have q:=h4 y hy
  rcases e with e | e <;> (simp only[e,Bool.or_eq_true,decide_eq_true_eq] at q;exact q)
end L2
namespace L2
open PySem PySem.Spec PyProof.Rows
section
variable {prog:Program} {w:World} {A:Around} {R:Result→Shared→Prop} {s:Shared} {elt t0 i0 t1 i1:Expr} {ifs0 ifs1:List Expr} {scope:Scope} {pos:Pos} {it acc:Value} {env:Env}
end
section
variable {X:Cx}
end
end L2
namespace L2
open PySem PySem.Spec PyProof.Rows
section
variable {κ:Type} [DecidableEq κ]
noncomputable def valV (kvs:List (κ×V)) (k:κ):Option V:=(kvs.find? fun kv=>decide (kv.1=k)).map (·.2)
noncomputable def putK (kvs:List (κ×V)) (k:κ) (v:V):List (κ×V):=
 if (kvs.any fun kv=>decide (kv.1=k))=true then kvs.map (fun kv=>if kv.1=k then (kv.1,v) else kv) else kvs++[(k,v)]
theorem Z0n {p:κ×V} {r:List (κ×V)} {k:κ} (e:p.1=k):valV (p::r) k=some p.2:=by simp[valV,List.find?_cons,e]
theorem W2 {p:κ×V} {r:List (κ×V)} {k:κ} (e:¬ p.1=k):valV (p::r) k=valV r k:=by simp[valV,List.find?_cons,e]
theorem W3 (k:κ):∀ kvs:List (κ×V),(kvs.any fun kv=>decide (kv.1=k))=(valV kvs k).isSome
 | []=>rfl
 | p::r=>by
  rw[List.any_cons]
  by_cases e:p.1=k
  ·simp only[Z0n e,decide_eq_true e,Bool.true_or,Option.isSome_some]
  ·rw[W2 e,decide_eq_false e,Bool.false_or];exact W3 k r
theorem Z1p (kvs:List (κ×V)) (k:κ) (v:V):(putK kvs k v).length≤kvs.length+1:=by
 unfold putK
 split
 ·rw[List.length_map];omega
 ·rw[List.length_append,List.length_cons,List.length_nil];omega
theorem Zgm {kvs:List (κ×V)} {k:κ} (v:V) (h:valV kvs k=none):putK kvs k v=kvs++[(k,v)]:=by
 unfold putK
 rw[W3,h]
 exact if_neg (by decide)
theorem RelO.isSome_eq {o:Option V} {u:Option Value} (r:RelO o u):o.isSome=u.isSome:=by
 cases o with
 | none=>cases u with
  | none=>rfl
  | some _=>exact (show False from r).elim
 | some _=>cases u with
  | none=>exact (show False from r).elim
  | some _=>rfl
theorem RelO.getD {o:Option V} {u:Option Value} {d:V} {d':Value} (r:RelO o u) (rd:RelV d d'):RelV (o.getD d) (u.getD d'):=by
 cases o with
 | none=>cases u with
  | none=>exact rd
  | some _=>exact (show False from r).elim
 | some _=>cases u with
  | none=>exact (show False from r).elim
  | some _=>exact r
theorem KV.val {kvs:List (κ×V)} {vs:List (κ×Value)} (r:KV kvs vs) (k:κ):RelO (valV kvs k) (valueAt vs k):=by
 unfold KV at r
 induction r with
 | nil=>exact True.intro
 | @cons p q ps qs h t ih=>
  obtain ⟨h1,h2⟩:=h
  by_cases e:p.1=k
  ·have e':q.1=k:=h1.symm.trans e
   have b:valueAt (q::qs) k=some q.2:=by simp[valueAt,List.find?_cons,e']
   rw[Z0n e,b];exact h2
  ·have e':¬ q.1=k:=fun z=>e (h1.trans z)
   have b:valueAt (q::qs) k=valueAt qs k:=by simp[valueAt,List.find?_cons,e']
   rw[W2 e,b];exact ih
theorem KV.any {kvs:List (κ×V)} {vs:List (κ×Value)} (r:KV kvs vs) (k:κ):(kvs.any fun kv=>decide (kv.1=k))=vs.any fun kv=>decide (kv.1=k):=by
 unfold KV at r
 induction r with
 | nil=>rfl
 | cons h t ih=>rw[List.any_cons,List.any_cons,ih,h.1]
theorem KV.repl {kvs:List (κ×V)} {vs:List (κ×Value)} (r:KV kvs vs) (k:κ) {y:V} {u:Value} (ry:RelV y u) :
  KV (kvs.map fun kv=>if kv.1=k then (kv.1,y) else kv) (vs.map fun kv=>if kv.1=k then (kv.1,u) else kv):=by
 unfold KV at r ⊢
 induction r with
 | nil=>exact .nil
 | @cons p q ps qs h t ih=>
  rw[List.map_cons,List.map_cons]
  refine .cons ?_ ih
  obtain ⟨h1,h2⟩:=h
  by_cases e:p.1=k
  ·rw[if_pos e,if_pos (h1.symm.trans e)];exact ⟨h1,ry⟩
  ·rw[if_neg e,if_neg (fun z=>e (h1.trans z))];exact ⟨h1,h2⟩
theorem KV.put {kvs:List (κ×V)} {vs:List (κ×Value)} (r:KV kvs vs) (k:κ) {y:V} {u:Value} (ry:RelV y u):KV (putK kvs k y) (stored vs k u):=by
 unfold putK stored
 rw[r.any k]
 by_cases e:(vs.any fun kv=>decide (kv.1=k))=true
 ·rw[if_pos e,if_pos e];exact r.repl k ry
 ·rw[if_neg e,if_neg e];exact Paired.snoc r ⟨rfl,ry⟩
theorem KV.length {kvs:List (κ×V)} {vs:List (κ×Value)} (r:KV kvs vs):kvs.length=vs.length:=Paired.length r
end
theorem kV_is {P:Program} {w:World} {k:Key} {u:Value} (r:RelV (kV k) u):(Zs P w).is k u=true:=by
 cases k with
 | inl i=>obtain ⟨t,e⟩:=(show ∃ t,u=Value.int i t from r);subst e;exact Zay P w i t
 | inr x=>obtain ⟨t,e⟩:=(show ∃ t,u=Value.str x t from r);subst e;exact Zax P w x t
theorem Z9l {P:Program} {w:World}:∀ {ks:List Key} {us:List Value},Vals (ks.map kV) us→ItemsAre (Zs P w) ks us
 | [],_,r=>by rw[List.map_nil] at r;cases r;exact .nil
 | k::ks,_,r=>by
  rw[List.map_cons] at r
  cases r with
  | cons h t=>exact .cons (kV_is h) (Z9l t)
abbrev KT (H:Hp):List (List Key×V)→List (List Key×Addr×Value)→Prop:=Paired fun p q=>p.1=q.1∧H q.2.1=some (.tup (p.1.map kV))∧RelV p.2 q.2.2
theorem KT.val {H:Hp} {kvs:List (List Key×V)} {xs:List (List Key×Addr×Value)} (r:KT H kvs xs) (k:List Key):RelO (valV kvs k) ((atKey xs k).map (·.2)):=by
 induction r with
 | nil=>exact True.intro
 | @cons p q ps qs h t ih=>
  obtain ⟨h1,_,h2⟩:=h
  by_cases e:p.1=k
  ·have e':q.1=k:=h1.symm.trans e
   have b:atKey (q::qs) k=some q.2:=by simp[atKey,List.find?_cons,e']
   rw[Z0n e,b];exact h2
  ·have e':¬ q.1=k:=fun z=>e (h1.trans z)
   have b:atKey (q::qs) k=atKey qs k:=by simp[atKey,List.find?_cons,e']
   rw[W2 e,b];exact ih
theorem KT.repl {H:Hp} {kvs:List (List Key×V)} {xs:List (List Key×Addr×Value)} (r:KT H kvs xs) (k:List Key) {y:V} {u:Value} (ry:RelV y u) :
  KT H (kvs.map fun kv=>if kv.1=k then (kv.1,y) else kv) (xs.map (putAt k u)):=by
 induction r with
 | nil=>exact .nil
 | @cons p q ps qs h t ih=>
  rw[List.map_cons,List.map_cons]
  refine .cons ?_ ih
  obtain ⟨h1,h2,h3⟩:=h
  unfold putAt
  by_cases e:p.1=k
  ·rw[if_pos e,if_pos (h1.symm.trans e)];exact ⟨h1,h2,ry⟩
  ·rw[if_neg e,if_neg (fun z=>e (h1.trans z))];exact ⟨h1,h2,h3⟩
theorem KT.put {H:Hp} {kvs:List (List Key×V)} {xs:List (List Key×Addr×Value)} (r:KT H kvs xs) (k:List Key) {b:Addr} {y:V} {u:Value} (hb:H b=some (.tup (k.map kV))) (ry:RelV y u) :
  KT H (putK kvs k y) (storedH xs k b u):=by
 have e:(kvs.any fun kv=>decide (kv.1=k))=(atKey xs k).isSome:=by
  rw[W3,(r.val k).isSome_eq,Option.isSome_map]
 unfold putK storedH
 rw[e]
 by_cases q:(atKey xs k).isSome=true
 ·rw[if_pos q,if_pos q];exact r.repl k ry
 ·rw[if_neg q,if_neg q];exact Paired.snoc r ⟨rfl,hb,ry⟩
theorem KT.keeps {H H':Hp} {kvs:List (List Key×V)} {xs:List (List Key×Addr×Value)} (r:KT H kvs xs) (ht:∀ b ys,H b=some (.tup ys)→H' b=some (.tup ys)):KT H' kvs xs:=
 Paired.mapP r fun _ _ z=>⟨z.1,ht _ _ z.2.1,z.2.2⟩
section
variable {P:Program} {w:World} {H:Hp} {h:Heap} {a:Addr}
theorem rd_of {u:HO} (ok:HOk P w H h) (e:Rd H a u):ObjOk P w H h a u:=e.ok ok
theorem dk_rd {kvs:List (Key×V)} (ok:HOk P w H h) (e:Rd H a (.dK kvs)):kvs.length≤sizeLine∧(a==sysModules)=false∧∃ vs,KV kvs vs∧h.DictOf (Zs P w) a vs:=
 show ObjOk P w H h a (.dK kvs) from rd_of ok e
theorem dk_of {kvs:List (Key×V)} (ok:HOk P w H h) (e:H a=some (.dK kvs)):kvs.length≤sizeLine∧(a==sysModules)=false∧∃ vs,KV kvs vs∧h.DictOf (Zs P w) a vs:=dk_rd ok (.inl e)
theorem Z74 {ks:List Key} (ok:HOk P w H h) (e:H a=some (.tup (ks.map kV))):(tupleKind (Zs P w)).is h ks a:=by
 obtain ⟨_,its,r,o,h1,h2,n,h3⟩:=(show ObjOk P w H h a (.tup (ks.map kV)) from ok a _ e)
 exact ⟨o,its.toArray,n,h1,h2,h3,by simpa using Z9l r⟩
theorem dt_rd {kvs:List (List Key×V)} (ok:HOk P w H h) (e:Rd H a (.dT kvs)):kvs.length≤sizeLine∧(a==sysModules)=false ∧
  ∃ xs,KT H kvs xs∧h.DictOfH (tupleKind (Zs P w)) a xs:=by
 obtain ⟨z,y,xs,r,o,es,ep,h1,h2,h3,h4,h5⟩:=(show ObjOk P w H h a (.dT kvs) from rd_of ok e)
 refine ⟨z,y,xs,r,o,es,ep,h1,h2,h3,h4,fun x hx=>?_,h5⟩
 have all:∀ {l:List (List Key×V)} {m:List (List Key×Addr×Value)},KT H l m→∀ x∈m,(tupleKind (Zs P w)).is h x.1 x.2.1:=by
  intro l m q
  induction q with
  | nil=>intro x hx;exact nomatch hx
  | @cons p q ps qs hq t ih=>
   intro x hx
   rcases List.mem_cons.mp hx with e | hx
   ·subst e
    exact Z74 ok (by rw[← hq.1];exact hq.2.1)
   ·exact ih x hx
 exact all r x hx
theorem dt_of {kvs:List (List Key×V)} (ok:HOk P w H h) (e:H a=some (.dT kvs)):kvs.length≤sizeLine∧(a==sysModules)=false ∧
  ∃ xs,KT H kvs xs∧h.DictOfH (tupleKind (Zs P w)) a xs:=dt_rd ok (.inl e)
end
def DGet (H:Hp) (a:Addr) (y:V) (r:Option V):Prop:=
 (∃ kvs k,Rd H a (.dK kvs)∧y=kV k∧r=valV kvs k)∨∃ kvs k b,Rd H a (.dT kvs)∧y=.ref b∧H b=some (.tup (k.map kV))∧r=valV kvs k
def DPut (H:Hp) (a:Addr) (y v:V) (H':Hp):Prop:=
 (∃ kvs k,H a=some (.dK kvs)∧y=kV k∧kvs.length<sizeLine∧H'=upd H a (.dK (putK kvs k v))) ∨
 ∃ kvs k b,H a=some (.dT kvs)∧y=.ref b∧H b=some (.tup (k.map kV))∧kvs.length<sizeLine∧H'=upd H a (.dT (putK kvs k v))
theorem DGet.k {H:Hp} {a:Addr} {kvs:List (Key×V)} {k:Key} (e:H a=some (.dK kvs)):DGet H a (kV k) (valV kvs k):=.inl ⟨kvs,k,.inl e,rfl,rfl⟩
theorem DGet.t {H:Hp} {a b:Addr} {kvs:List (List Key×V)} {k:List Key} (e:H a=some (.dT kvs)) (eb:H b=some (.tup (k.map kV))):DGet H a (.ref b) (valV kvs k):=.inr ⟨kvs,k,b,.inl e,rfl,eb,rfl⟩
theorem DPut.k {H:Hp} {a:Addr} {kvs:List (Key×V)} {k:Key} {v:V} (e:H a=some (.dK kvs)) (hl:kvs.length<sizeLine):DPut H a (kV k) v (upd H a (.dK (putK kvs k v))):=.inl ⟨kvs,k,e,rfl,hl,rfl⟩
theorem DPut.t {H:Hp} {a b:Addr} {kvs:List (List Key×V)} {k:List Key} {v:V} (e:H a=some (.dT kvs)) (eb:H b=some (.tup (k.map kV))) (hl:kvs.length<sizeLine) :
  DPut H a (.ref b) v (upd H a (.dT (putK kvs k v))):=.inr ⟨kvs,k,b,e,rfl,eb,hl,rfl⟩
section
variable {X:Cx} {pins:List (Addr×Obj)} {σ:St} {H:Hp} {s:Shared} {a:Addr} {y v:V} {u r:Value} {o:Option V} {A:Around} {E:Value→Shared→Prop}
theorem Inv.big (I:Inv X pins σ H s):sysModules<s.heap.objs.size:=by
 have h:mainGlobals<s.heap.objs.size:=(I.mod.glob.keeps I.bk).lt
 exact Nat.lt_trans (by decide) h
theorem Zg3 {Q:Value→Shared→Prop} (hu:A.units+1<cLine) (I:Inv X pins σ H s) (g:DGet H a y (some v)) (ry:RelV y u) (h:∀ w' s',Inv X pins σ H s'→RelV v w'→Q w' s') :
  wpAny (model X.prog X.w) A (getItem (.ref a) u) Q E s:=by
 rcases g with ⟨kvs,k,e,ey,l⟩ | ⟨kvs,k,b,e,ey,eb,l⟩
 ·subst ey
  obtain ⟨z,hd,vs,rel,dd⟩:=dk_rd I.hok e
  obtain ⟨w',hw,rw'⟩:=RelO.some_of (v:=v) (o:=valueAt vs k) (by rw[l];exact rel.val k)
  exact wpAny_getItem_of (kV_is ry) dd.mapOf hw (h w' _ (I.tok _) rw')
 ·subst ey
  cases (show u=Value.ref b from ry)
  obtain ⟨z,hd,xs,rel,dd⟩:=dt_rd I.hok e
  obtain ⟨w',hw,rw'⟩:=RelO.some_of (v:=v) (o:=(atKey xs k).map (·.2)) (by rw[l];exact rel.val k)
  obtain ⟨p,hp,hp2⟩:=Option.map_eq_some_iff.mp hw
  refine wpAny_getItem_heap (tupleKind_room_in1 hu) (Z74 I.hok eb) dd hp ?_
  rw[hp2]
  exact h w' _ (I.tok _) rw'
theorem d_in {Q:Value→Shared→Prop} (hu:A.units+1<cLine) (I:Inv X pins σ H s) (g:DGet H a y o) (ry:RelV y u) (h:∀ s',Inv X pins σ H s'→Q (.bool o.isSome) s') :
  wpAny (model X.prog X.w) A (compareOp .In u (.ref a)) Q E s:=by
 rcases g with ⟨kvs,k,e,ey,l⟩ | ⟨kvs,k,b,e,ey,eb,l⟩
 ·subst ey
  obtain ⟨z,hd,vs,rel,dd⟩:=dk_rd I.hok e
  refine wpAny_in_of (kV_is ry) hd dd.mapOf ?_
  rw[← (rel.val k).isSome_eq,← l]
  exact h _ (I.tok _)
 ·subst ey
  cases (show u=Value.ref b from ry)
  obtain ⟨z,hd,xs,rel,dd⟩:=dt_rd I.hok e
  refine wpAny_in_heap (tupleKind_room_in1 hu) (Z74 I.hok eb) hd dd ?_
  have q:=(rel.val k).isSome_eq
  rw[Option.isSome_map] at q
  rw[← q,← l]
  exact h _ (I.tok _)
theorem Z5f {h':Heap} {t':Nat} {ob:HO} (I:Inv X pins σ H s) (mu:Mut (H a)) (hs:Heap.SameBut a s.heap h') (he:∃ q,h'.get? a=some q) (new:ObjOk X.prog X.w (upd H a ob) h' a ob) :
  Inv X pins σ (upd H a ob) { s with heap:=h',toks:=t' }:=
 I.write (x:=a) (e:=a) mu (.inl rfl) (fun b q hb z=>(hs.2 b hb).trans z) he new
theorem Zhr {P:Program} {w:World} {H':Hp} {h':Heap} {kvs:List (Key×V)} {vs:List (Key×Value)} (z:kvs.length≤sizeLine) (hd:(a==sysModules)=false) (rel:KV kvs vs) (dd:h'.DictOf (Zs P w) a vs) :
  ObjOk P w H' h' a (.dK kvs):=⟨z,hd,vs,rel,dd⟩
theorem Zg2 {H':Hp} {Q:Unit→Shared→Prop} (hu:A.units+1<cLine) (I:Inv X pins σ H s) (g:DPut H a y v H') (ry:RelV y u) (rv:RelV v r) (h:∀ s',Inv X pins σ H' s'→Q () s') :
  wpAny (model X.prog X.w) A (setItem (.ref a) u r) Q E s:=by
 rcases g with ⟨kvs,k,e,ey,l,eH⟩ | ⟨kvs,k,b,e,ey,eb,l,eH⟩
 ·subst ey eH
  obtain ⟨z,hd,vs,rel,dd⟩:=dk_of I.hok e
  have hz:vs.length≤sizeLine:=by rw[← rel.length];exact z
  have hl:(putK kvs k v).length≤sizeLine:=by have:=Z1p kvs k v;omega
  refine wpAny_setItem_pairs (hsz:=hz) (kV_is ry) dd fun h' dd' hs=>h _ ?_
  have he:∃ q,h'.get? a=some q:=let ⟨q,_,_,hq,_⟩:=dd';⟨q,hq⟩
  exact Z5f I (by rw[e];exact True.intro) hs he (Zhr hl hd (rel.put k rv) dd')
 ·subst ey eH
  cases (show u=Value.ref b from ry)
  obtain ⟨z,hd,xs,rel,dd⟩:=dt_of I.hok e
  have hz:xs.length≤sizeLine:=by rw[← Paired.length rel];exact z
  have hl:(putK kvs k v).length≤sizeLine:=by have:=Z1p kvs k v;omega
  refine wpAny_setItem_heap (hsz:=hz) (tupleKind_room_in1 hu) (Z74 I.hok eb) dd fun h' dd' hs=>h _ ?_
  obtain ⟨q,es,ep,hq,h2,h3,h4,_,h5⟩:=dd'
  refine Z5f I (by rw[e];exact True.intro) hs ⟨q,hq⟩ ⟨hl,hd,_,(rel.put k eb rv).keeps fun c ys ec=>?_,q,es,ep,hq,h2,h3,h4,h5⟩
  rw[Z8 (ne_of ec e (fun z=>nomatch z))]
  exact ec
end
section
variable {X:Cx} {pins:List (Addr×Obj)} {σ:St} {H:Hp} {s:Shared} {a:Addr} {kvs:List (Key×V)} {k:Key} {u:Value} {A:Around} {E:Value→Shared→Prop}
end
def NoSl (i:Expr):Prop:=∀ ov iv,subscripted i false ov iv=operate [ov,iv] (getItem ov iv)
theorem Ze7 {prog:Program} {w:World} {A:Around} {E:Value→Shared→Prop} {s:Shared} {env:Env} {value slice:Expr} {pos:Pos} {T id:String} {Q:Value→Shared→Prop}
  (hl:typeLookup (.type T) "__getitem__" = pure (some (.builtin id))) (hs:NoSl slice)
  (h:wpAny (model prog w) A (eval value env) (fun o s₁=>wpAny (model prog w) A (eval slice env) (fun i s₂=>s₂.TypeIs o T∧wpAny (model prog w) A (getItem o i) Q E s₂) E s₁) E s) :
  wpAny (model prog w) A (eval (.Subscript value slice pos) env) Q E s:=by
 refine Subscript_ (wpAny_mono h (fun o s₁ h₁=>wpAny_mono h₁ (fun i s₂ h₂=>?_) fun _ _ x=>x) fun _ _ x=>x)
 obtain ⟨hT,h₂⟩:=h₂
 unfold subscriptTail
 refine wpAny_bind ?_
 rw[getitemInPython_of_ne hT.not_modules]
 refine wpAny_bind (wpAny_specialOf hT hl ?_)
 have fin:wpAny (model prog w) A (subscripted slice false o i) (fun r s₃=>wpAny (model prog w) A (letTemporaryGo value o r >>= fun _=>pure r) Q E s₃) E s₂:=by
  rw[hs o i]
  exact wpAny_operating (wpAny_mono h₂ (fun r s₃ h₃=>wpAny_bind (wpAny_letTemporaryGo (wpAny_pure h₃))) fun _ _ x=>x)
 first
  | exact wpAny_pure (wpAny_bind fin)
  | exact wpAny_bind (wpAny_pure (wpAny_bind fin))
  | exact wpAny_bind fin
theorem Zb6 {X:Cx} {pins:List (Addr×Obj)} {σ:St} {H:Hp} {s:Shared} {a:Addr} {y:V} {o:Option V} (I:Inv X pins σ H s) (g:DGet H a y o):s.TypeIs (.ref a) "dict" := by
 rcases g with ⟨kvs,k,e,_,_⟩ | ⟨kvs,k,b,e,_,_,_⟩
 ·obtain ⟨_,_,vs,_,dd⟩:=dk_rd I.hok e
  exact dd.typeIs
 ·obtain ⟨_,_,xs,_,dd⟩:=dt_rd I.hok e
  exact dd.typeIs
noncomputable def tDGet (td ty:TE):TE:=fun σ H Q=>td σ H fun x H1=>ty σ H1 fun y H2=>∃ a v,x=.ref a∧DGet H2 a y (some v)∧Q v H2
noncomputable def tDIn (ty td:TE):TE:=fun σ H Q=>ty σ H fun y H1=>td σ H1 fun x H2=>∃ a o,x=.ref a∧DGet H2 a y o∧Q (.bl o.isSome) H2
noncomputable def sDPut (td ty tv:TE):TS:=fun D σ H=>tv σ H fun v H1=>td σ H1 fun x H2=>ty σ H2 fun y H3=>∃ a H4,x=.ref a∧DPut H3 a y v H4∧D.nx σ H4
section
variable {X:Cx} {o i e value:Expr} {pos pos' tpos:Pos} {td ty tv:TE}
theorem Zf1 (hu:X.A.units+1<cLine) (ho:PE X o td) (hi:PE X i ty) (hs:NoSl i):PE X (.Subscript o i pos) (tDGet td ty):=by
 intro pins s σ H Q I h
 refine Ze7 PySem.F.slot_dict_getitem.lookup hs (thn (ho pins s σ H _ I h) fun u s1 ⟨x,H1,I1,rx,q1⟩=>thn (hi pins s1 σ H1 _ I1 q1) fun iv s2 ⟨y,H2,I2,ry,a,v,ex,g,q2⟩=>?_)
 subst ex
 obtain rfl:u=Value.ref a:=rx
 exact ⟨Zb6 I2 g,Zg3 hu I2 g ry fun w' s3 I3 rw'=>⟨v,H2,I3,rw',q2⟩⟩
theorem pc_din (hu:X.A.units+1<cLine) (hi:PE X i ty) (ho:PE X o td):PC X .In i o (tDIn ty td):=by
 intro pins s σ H Q I h
 refine thn (hi pins s σ H _ I h) fun iv s1 ⟨y,H1,I1,ry,q1⟩=>thn (ho pins s1 σ H1 _ I1 q1) fun u s2 ⟨x,H2,I2,rx,a,ov,ex,g,q2⟩=>?_
 subst ex
 obtain rfl:u=Value.ref a:=rx
 exact d_in hu I2 g ry fun s3 I3=>⟨.bl ov.isSome,H2,I3,rfl,q2⟩
theorem Zeu (hu:X.A.units+1<cLine) (ho:PE X o td) (hi:PE X i ty) (hv:PE X value tv) (hs:swapsWith value (some (.Subscript o i pos')) pos.line X.env=pure false) :
  PS X (.Assign [.Subscript o i pos'] value pos) (sDPut td ty tv):=by
 intro pins s σ H D I h
 refine wpAny_Assign_Subscript (thn (hv pins s σ H _ I h) fun r s1 ⟨v,H1,I1,rv,q1⟩=>thn (ho pins s1 σ H1 _ I1 q1) fun u s2 ⟨x,H2,I2,rx,q2⟩=>thn (hi pins s2 σ H2 _ I2 q2) fun iv s3 ⟨y,H3,I3,ry,a,H4,ex,g,q3⟩=>?_) hs
 subst ex
 obtain rfl:u=Value.ref a:=rx
 exact Zg2 hu I3 g ry rv fun s4 I4=>⟨σ,H4,I4,q3⟩
end
theorem Zh8 {P:Program} {w:World} {H:Hp} (h:Heap) (hb:sysModules<h.objs.size):ObjOk P w H (h.push { cls:=.type "dict",data:=.dict #[] }) h.objs.size (.dK []):=
 ⟨Nat.zero_le _,beq_eq_false_iff_ne.mpr (Ne.symm (Nat.ne_of_lt hb)),[],.nil,Heap.DictOf.new h⟩
theorem Zh6 {P:Program} {w:World} {H:Hp} (h:Heap) (hb:sysModules<h.objs.size):ObjOk P w H (h.push { cls:=.type "dict",data:=.dict #[] }) h.objs.size (.dT []):=
 ⟨Nat.zero_le _,beq_eq_false_iff_ne.mpr (Ne.symm (Nat.ne_of_lt hb)),[],.nil,_,#[],0,Heap.get?_push_size _ rfl,⟨rfl,rfl,rfl⟩,rfl,rfl,List.nodup_nil⟩
def tDNewT:TE:=fun _ H Q=>∀ p,H p=none→Q (.ref p) (upd H p (.dT []))
section
variable {X:Cx} {pos:Pos}
theorem Z88:PE X (.Dict [] [] pos) tDNewT:=fun pins s σ H Q I h=>
 wpAny_Dict_empty ⟨.ref s.heap.objs.size,_,I.laid (a:=s.heap.objs.size) (o:=.dT []) (t':=s.toks) (fun _ _ q=>Heap.get?_push_of_some _ q) (Nat.le_refl _) (Zh6 s.heap I.big),rfl,h _ (I.hok.fresh (Nat.le_refl _))⟩
end
def tPairs:List (TE×TE)→St→Hp→(List (V×V)→Hp→Prop)→Prop
 | [],_,H,Q=>Q [] H
 | (tk,tv)::r,σ,H,Q=>tk σ H fun x H1=>tv σ H1 fun y H2=>tPairs r σ H2 fun ps H3=>Q ((x,y)::ps) H3
abbrev VV:List (V×V)→List (Value×Value)→Prop:=Paired fun p q=>RelV p.1 q.1∧RelV p.2 q.2
def PPs (X:Cx) (pos:Pos) (keys:List (Option Expr)) (values:List Expr) (trs:List (TE×TE)):Prop:=
 ∀ (pins:List (Addr×Obj)) (s:Shared) (σ:St) (H:Hp) (Q:List (V×V)→Hp→Prop),Inv X pins σ H s→tPairs trs σ H Q →
  wpAny (model X.prog X.w) X.A (evalPairs (pairTrees keys values X.env pos)) (fun vs s'=>∃ ps H',Inv X pins σ H' s'∧VV ps vs∧Q ps H') X.xe s
theorem pps_nil {X:Cx} {pos:Pos}:PPs X pos [] [] []:=fun pins s σ H Q I h=>pairTrees_nil_walk ⟨[],H,I,.nil,h⟩
theorem Zgp {X:Cx} {pos:Pos} {k v:Expr} {ks:List (Option Expr)} {vs:List Expr} {tk tv:TE} {trs:List (TE×TE)} (hk:PE X k tk) (hv:PE X v tv) (hr:PPs X pos ks vs trs) :
  PPs X pos (some k::ks) (v::vs) ((tk,tv)::trs):=fun pins s σ H Q I h=>
 pairTrees_cons_walk (thn (hk pins s σ H _ I h) fun u s1 ⟨x,H1,I1,rx,q1⟩=>thn (hv pins s1 σ H1 _ I1 q1) fun w2 s2 ⟨y,H2,I2,ry,q2⟩=>
  thn (hr pins s2 σ H2 _ I2 q2) fun ws s3 ⟨ps,H3,I3,rel,q3⟩=>⟨(x,y)::ps,H3,I3,.cons ⟨rx,ry⟩ rel,q3⟩)
def mergeK (kvs more:List (Key×V)):List (Key×V):=more.foldl (fun acc kv=>putK acc kv.1 kv.2) kvs
theorem KV.merge:∀ {more:List (Key×V)} {rs:List (Key×Value)} {kvs:List (Key×V)} {vs:List (Key×Value)},KV more rs→KV kvs vs→KV (mergeK kvs more) (merged vs rs):=by
 intro more rs kvs vs r
 unfold KV at r
 induction r generalizing kvs vs with
 | nil=>intro q;exact q
 | @cons p q ps qs h t ih=>
  intro r0
  have e:KV (putK kvs p.1 p.2) (stored vs q.1 q.2):=by
   have:=r0.put p.1 h.2
   rw[← h.1];exact this
  exact ih e
theorem Wh:∀ (more kvs:List (Key×V)),(mergeK kvs more).length≤kvs.length+more.length
 | [],kvs=>by show kvs.length≤kvs.length+0;omega
 | p::r,kvs=>by
  have h1:=Wh r (putK kvs p.1 p.2)
  have h2:=Z1p kvs p.1 p.2
  show (mergeK (putK kvs p.1 p.2) r).length≤_
  rw[List.length_cons];omega
theorem Z7a {P:Program} {w:World}:∀ {kvs:List (Key×V)} {ws:List (Value×Value)},VV (kvs.map fun kv=>(kV kv.1,kv.2)) ws→∃ rs,Carries (Zs P w) ws rs∧KV kvs rs
 | [],_,r=>by rw[List.map_nil] at r;cases r;exact ⟨[],True.intro,.nil⟩
 | p::kvs,_,r=>by
  rw[List.map_cons] at r
  cases r with
  | @cons a b as bs h t=>
   obtain ⟨rs,c,q⟩:=Z7a (P:=P) (w:=w) t
   obtain ⟨b1,b2⟩:=b
   exact ⟨(p.1,b2)::rs,⟨kV_is h.1,rfl,c⟩,.cons ⟨rfl,h.2⟩ q⟩
def tDisp (trs:List (TE×TE)):TE:=fun σ H Q=>∀ p,H p=none→tPairs trs σ (upd H p (.dK [])) fun ps H2=>H2 p=some (.dK [])∧∃ kvs:List (Key×V),ps=kvs.map (fun kv=>(kV kv.1,kv.2))∧kvs.length≤15∧Q (.ref p) (upd H2 p (.dK (mergeK [] kvs)))
theorem pe_disp {X:Cx} {pos:Pos} {keys:List (Option Expr)} {values:List Expr} {trs:List (TE×TE)} (h:PPs X pos keys values trs) (hall:keys.all (·.isSome)=true) (hl:keys.length=values.length) (h0:keys≠[])
  (h15:keys.length≤15):PE X (.Dict keys values pos) (tDisp trs):=by
 intro pins s σ H Q I q
 have hn:=I.hok.fresh (Nat.le_refl s.heap.objs.size)
 have I1:=I.laid (a:=s.heap.objs.size) (o:=.dK []) (h':=s.heap.push { cls:=.type "dict",data:=.dict #[] }) (t':=s.toks) (fun _ _ q=>Heap.get?_push_of_some _ q) (Nat.le_refl _) (Zh8 s.heap I.big)
 refine wpAny_Dict_walk (knd:=Zs X.prog X.w) hall hl h0 h15 (thn (h pins _ σ _ _ I1 (q _ hn)) fun ws s2 ⟨ps,H2,I2,rel,e,kvs,ep,lk,q2⟩=>?_)
 subst ep
 obtain ⟨rs,c,rk⟩:=Z7a (P:=X.prog) (w:=X.w) rel
 obtain ⟨z,hd,vs0,r0,dd⟩:=dk_of I2.hok e
 cases r0
 refine ⟨rs,c,dd,fun h' dd' hs=>⟨.ref s.heap.objs.size,_,?_,rfl,q2⟩⟩
 have hz:(mergeK [] kvs).length≤sizeLine:=by
  have h1:=Wh kvs []
  rw[List.length_nil] at h1
  rw[sizeLine_eq];omega
 have he:∃ q,h'.get? s.heap.objs.size=some q:=let ⟨q,_,_,hq,_⟩:=dd';⟨q,hq⟩
 exact Z5f I2 (by rw[e];exact True.intro) hs he (Zhr hz hd (rk.merge .nil) dd')
structure M1 (X:Cx) (o:Expr) (m:Str) (apos:Pos) (e:Expr) (cpos:Pos):Prop where
 base:attributeBase o m X.env (eval o X.env)=eval o X.env
 few:((backTo cpos (starEach [e] X.env)).all (fun x=>!x.1)&&(backToKw cpos (keywordEach [] X.env)).all (fun x=>x.1.isSome)
  && decide (([e]:List Expr).length+([]:List Keyword).length+(if ([]:List Keyword).isEmpty then 0 else 1)<30))=true
 line:(apos.endLine==cpos.line)=true
 trees:backTo cpos (starEach [e] X.env)=[(false,eval e X.env)]
structure M2 (X:Cx) (o:Expr) (m:Str) (apos:Pos) (e f:Expr) (cpos:Pos):Prop where
 base:attributeBase o m X.env (eval o X.env)=eval o X.env
 few:((backTo cpos (starEach [e,f] X.env)).all (fun x=>!x.1)&&(backToKw cpos (keywordEach [] X.env)).all (fun x=>x.1.isSome)
  && decide (([e,f]:List Expr).length+([]:List Keyword).length+(if ([]:List Keyword).isEmpty then 0 else 1)<30))=true
 line:(apos.endLine==cpos.line)=true
 trees:backTo cpos (starEach [e,f] X.env)=[(false,eval e X.env),(false,eval f X.env)]
def IsD (H:Hp) (a:Addr):Prop:=(∃ kvs,Rd H a (.dK kvs))∨∃ kvs,Rd H a (.dT kvs)
theorem isD_at {X:Cx} {pins:List (Addr×Obj)} {σ:St} {H:Hp} {s:Shared} {a:Addr} (I:Inv X pins σ H s) (d:IsD H a) :
  s.TypeIs (.ref a) "dict" ∧ (∀ b,Value.ref a=.ref b→∃ ob,s.heap.get? b=some ob∧ob.dict=none)∧(a==sysModules)=false:=by
 rcases d with ⟨kvs,e⟩ | ⟨kvs,e⟩
 ·obtain ⟨_,hd,vs,_,dd⟩:=dk_rd I.hok e
  refine ⟨dd.typeIs,fun b q=>?_,hd⟩
  cases q
  obtain ⟨ob,_,_,h1,h2,_⟩:=dd
  exact ⟨ob,h1,h2.2.1⟩
 ·obtain ⟨_,hd,xs,_,dd⟩:=dt_rd I.hok e
  refine ⟨dd.typeIs,fun b q=>?_,hd⟩
  cases q
  obtain ⟨ob,_,_,h1,h2,_⟩:=dd
  exact ⟨ob,h1,h2.2.1⟩
section
variable {X:Cx} {pins:List (Addr×Obj)} {σ:St} {H:Hp} {s:Shared} {a:Addr} {y d:V} {u r:Value} {o:Option V} {A:Around} {E:Value→Shared→Prop}
theorem d_get2 {Q:Value→Shared→Prop} (hu:A.units+1<cLine) (I:Inv X pins σ H s) (g:DGet H a y o) (ry:RelV y u) (rd:RelV d r) (h:∀ w' s',Inv X pins σ H s'→RelV (o.getD d) w'→Q w' s') :
  wpAny (model X.prog X.w) A (call (.builtin "dict.get") [.ref a,u,r]) Q E s:=by
 rcases g with ⟨kvs,k,e,ey,l⟩ | ⟨kvs,k,b,e,ey,eb,l⟩
 ·subst ey
  obtain ⟨z,hd,vs,rel,dd⟩:=dk_rd I.hok e
  refine call_meetsIn PySem.F.slot_dict_get dd.typeIs PySem.F.entry_dict_get (PySem.F.args_dict_get_3 _ _ _) (meets_dict_get_default (Zs X.prog X.w) a (kV_is ry) hd r) ⟨_,dd.mapOf,h _ _ (I.tok _) ?_⟩
  rw[l]
  exact (rel.val k).getD rd
 ·subst ey
  cases (show u=Value.ref b from ry)
  obtain ⟨z,hd,xs,rel,dd⟩:=dt_rd I.hok e
  refine call_meetsIn PySem.F.slot_dict_get dd.typeIs PySem.F.entry_dict_get (PySem.F.args_dict_get_3 _ _ _) (meetsH_dict_get_default (tupleKind (Zs X.prog X.w)) a b hd r) ⟨tupleKind_room_in1 hu,k,xs,Z74 I.hok eb,dd,h _ _ (I.tok _) ?_⟩
  rw[l]
  exact (rel.val k).getD rd
end
noncomputable def tDGet2 (td ty tx:TE):TE:=fun σ H Q=>td σ H fun x H1=>∃ a,x=.ref a∧IsD H1 a∧ty σ H1 fun y H2=>tx σ H2 fun z H3=>∃ o,DGet H3 a y o∧Q (o.getD z) H3
section
variable {X:Cx} {o e f:Expr} {apos cpos:Pos} {td ty tx:TE}
theorem Zgv (hu:X.A.units+1<cLine) (ho:PE X o td) (he:PE X e ty) (hf:PE X f tx) (m:M2 X o "get" apos e f cpos):PE X (.Call (.Attribute o "get" apos) [e,f] [] cpos) (tDGet2 td ty tx):=by
 intro pins s σ H Q I h
 refine wpAny_Call_method m.base m.few m.line PySem.F.plainAttrs_dict PySem.F.slot_dict_get PySem.F.type_dict_get (thn (ho pins s σ H _ I h) fun u s1 ⟨x,H1,I1,rx,a,ex,d,q1⟩=>?_)
 subst ex
 obtain rfl:u=Value.ref a:=rx
 obtain ⟨t1,t2,_⟩:=isD_at I1 d
 refine ⟨t1,t2,?_⟩
 rw[m.trees]
 refine Calls.callWith_builtin rfl (Calls.evalArgs_plain (Calls.spliced_cons (thn (he pins s1 σ H1 _ I1 q1) fun iv s2 ⟨y,H2,I2,ry,q2⟩=>
  Calls.spliced_cons (thn (hf pins s2 σ H2 _ I2 q2) fun fv s3 ⟨z,H3,I3,rz,ov,g,q3⟩=>Calls.spliced_nil ?_))))
 exact d_get2 hu I3 g ry rz fun w' s4 I4 rw'=>⟨_,H3,I4,rw',q3⟩
end
section
variable {X:Cx} {pins:List (Addr×Obj)} {σ:St} {H:Hp} {s:Shared} {a:Addr} {kvs:List (Key×V)} {A:Around} {E:Value→Shared→Prop}
end
section
variable {X:Cx} {pins:List (Addr×Obj)} {σ:St} {H:Hp} {s:Shared} {a:Addr} {y:V} {u:Value} {A:Around} {E:Value→Shared→Prop}
end
end L2
namespace L2
open PySem PySem.Spec PyProof.Rows
theorem Z69:typeLookup (.type "list") "keys" = pure none:=am_miss_of_fast (by first | decide +kernel | rfl)
theorem Zbb:entryFor table "dict.update.loop" = some Builtin.«dict.update.loop»:=entryFor_of_tree (by kernel_rfl)
theorem Z1y:plainId "dict.update.loop" = true:=by decide +kernel
section
variable {prog:Program} {w:World} {A:Around} {E:Value→Shared→Prop}
theorem Zf9 {s:Shared} {a:Addr} {o:Obj} {xs:Array Value} {k:Nat} {Q:Option Value→Shared→Prop} (hx:s.heap.get? a=some o) (hc:o.cls=.type "list") (hdat:o.data=.seq xs k) (hd:o.dict=none) (hA:A.handled=none)
  (h:∀ h' tk,(∀ b ob,s.heap.get? b=some ob→h'.get? b=some ob)→Q none { s with heap:=h',toks:=tk }):wpAny (model prog w) A (getAttr? (.ref a) "keys") Q E s:=by
 obtain ⟨c,dct,dat,sl⟩:=o
 simp only at hc hdat hd
 subst hc hdat hd
 obtain ⟨hp,g,d,tk,os⟩:=s
 have hT:∀ tk',(⟨hp,g,d,tk',os⟩:Shared).TypeIs (.ref a) "list" := fun _=>⟨_,hx,rfl⟩
 have hmiss:=Z69
 have hname:(["__module__", "__name__", "__qualname__", "__doc__", "__annotations__"]:List Str).contains "keys" = false:=by decide +kernel
 have hsz:("keys" : Str).length+100≤sizeLine:=by first | size_fits | decide +kernel
 have f1:=sub_AttributeError
 have f3:=PySem.F.slot_list_getattribute.lookup
 have f4:=PySem.F.slot_list_getattribute.bind (.ref a)
 have f5:=am_list_getattr_none
 unfold getAttr? getAttrBy? getAttrBy
 repeat (any_goals (first | assumption | exact hT _ | ((with_reducible show wpAny _ _ (call (Value.builtin "list.__getattribute__") _ _) _ _ _);refine call_meets PySem.F.slot_list_getattribute (hT _) am_entry_list_getattribute (PySem.F.args_list_getattribute_2 _ _) (meets_getattribute_miss_list a xs k sl "keys" _ hmiss hname hsz) ⟨hx,hA,fun h' tk' e hx'=>?_⟩) | wp_step))
 obtain ⟨t',u',he⟩:=hx'.there
 show wpAny _ _ (getattributeRaised _ _ _ _ _ _ _) _ _ _
 unfold getattributeRaised
 repeat (any_goals (first | assumption | wp_step))
 all_goals first | exact h _ _ hx'.keeps | (dsimp only;repeat (any_goals (first | assumption | exact h _ _ hx'.keeps | wp_step)))
theorem Zba {R:Result→Shared→Prop} {S I l:Addr} {items:Array Value} {res:Value} (hh:A.handled=none) (hlI:l≠I) (hSI:S≠I) (hSl:S≠l) :
  ∀ (rest:List (Key×Value)) (i:Nat) (acc:List (Key×Value)) (ix:Int) (t:Tok) (s:Shared),items.size=i+rest.length→acc.length+rest.length≤sizeLine →
   (∀ (j:Nat) (q:Key×Value),rest[j]?=some q→∃ (b:Addr) (u:Value),items[i+j]?=some (.ref b)∧b≠S∧b≠I∧IsTup s.heap b #[u,q.2]∧keyIs q.1 u=true) →
   s.heap.IsListIter I l i→s.heap.IsList l items→s.heap.DictOf (Zs prog w) S acc →
   (∀ h' tk,h'.DictOf (Zs prog w) S (merged acc rest)→(∀ b o,b≠S→b≠I→s.heap.get? b=some o→h'.get? b=some o)→R (.ok (.ret res)) { s with heap:=h',toks:=tk }) →
   codeAny (model prog w) A (.builtin "dict.update.loop" ⟨[.ref S,.ref I,.int ix t,res],[]⟩) R s
 | [],i,acc,ix,t,s,hsz,hln,ht,hit,hl,hm,hR=>by
  refine codeAny_builtin Zbb ?_
  rw[Around.under_plainId Z1y _]
  show wpAny _ A.in1 (pyNext (.ref I) >>= _) _ _ s
  refine wpAny_bind (wpAny_pyNext_list_end (A:=A.in1) hh hit hl (by first | exact Array.getElem?_eq_none (Nat.le_of_eq hsz) | (simp at hsz;simp;omega)) fun h' he=>?_)
  show wpAny _ A.in1 (Builtin.Dict.addKeywords S [] >>= _) _ _ _
  refine wpAny_bind (wpAny_pure (wpAny_pure ?_))
  exact hR h' s.toks (hm.extBut he hSI) fun b o _ hb e=>he b o hb e
 | q::rest,i,acc,ix,t,s,hsz,hln,ht,hit,hl,hm,hR=>by
  obtain ⟨b,u,hb,hbS,hbI,htup,hk⟩:=ht 0 q rfl
  rw[List.length_cons] at hsz hln
  refine codeAny_builtin Zbb ?_
  rw[Around.under_plainId Z1y _]
  show wpAny _ A.in1 (pyNext (.ref I) >>= _) _ _ s
  refine wpAny_bind (wpAny_pyNext_list_item (x:=.ref b) hit hl (by simpa using hb) fun h1 hit1 hs1=>?_)
  have ht1:IsTup h1 b #[u,q.2]:=htup.extBut hs1.extBut hbI
  have hl1:h1.IsList l items:=hl.extBut hs1.extBut hlI
  have hm1:h1.DictOf (Zs prog w) S acc:=hm.extBut hs1.extBut hSI
  obtain ⟨o,ho,hc,n,hd⟩:=id ht1
  show wpAny _ A.in1 (holding [Value.ref b] _ >>= _) _ _ _
  refine wpAny_bind (wpAny_holding ?_)
  refine wpAny_bind (wpAny_tryCatch ?_)
  unfold Builtin.Dict.pairItems
  refine wpAny_bind (wpAny_typeOf (T := "tuple") ⟨o,ho,hc⟩ ?_)
  rw[if_pos (by first | decide | rfl | simp)]
  refine wpAny_bind (wpAny_seqItems ho hd (wpAny_pure ?_))
  show wpAny _ A.in1 (holding [u,q.2] (dictSet S u q.2)) _ _ _
  refine wpAny_holding (wpAny_dictSet_pairs (knd:=Zs prog w) (k:=q.1) hk hm1 (fun h2 hm2 hs2=>?_) (by omega))
  refine wpAny_pure ⟨plainId_quiet Z1y _,Zba (items:=items) hh hlI hSI hSl rest (i+1) (stored acc q.1 q.2) (ix+1) 0 _ (show items.size=i+1+rest.length by omega) ?_ (fun j q' e=>?_) ?_ ?_ hm2 fun h' tk hd' k=>?_⟩
  ·have z:=stored_length_le acc q.1 q.2
   omega
  ·obtain ⟨b',u',hb',hbS',hbI',htup',hk'⟩:=ht (j+1) q' (by simpa using e)
   refine ⟨b',u',?_,hbS',hbI',(htup'.extBut hs1.extBut hbI').extBut hs2.extBut hbS',hk'⟩
   rw[show i+1+j=i+(j+1) by omega]
   exact hb'
  ·exact hit1.at fun o' e=>hs2.extBut I o' (Ne.symm hSI) e
  ·exact hl1.extBut hs2.extBut (Ne.symm hSl)
  ·exact hR h' tk hd' fun c oc h3 h4 e=>k c oc h3 h4 (hs2.extBut c oc h3 (hs1.extBut c oc h4 e))
theorem Z5m {s:Shared} {l:Addr} {ol:Obj} {items:Array Value} {n:Nat} {prs:List (Key×Value)} {Q:Value→Shared→Prop} (hh:A.handled=none) (hl:s.heap.get? l=some ol) (hc:ol.cls=.type "list") (hd:ol.dict=none)
  (hdat:ol.data=.seq items n) (hsz:items.size=prs.length) (hln:prs.length≤sizeLine)
  (ht:∀ (j:Nat) (q:Key×Value),prs[j]?=some q→∃ (b:Addr) (u:Value),items[j]?=some (.ref b)∧IsTup s.heap b #[u,q.2]∧keyIs q.1 u=true)
  (h:∀ h' tk,h'.DictOf (Zs prog w) s.heap.objs.size (merged [] prs)→(∀ b o,s.heap.get? b=some o→h'.get? b=some o)→Q (.ref s.heap.objs.size) { s with heap:=h',toks:=tk }) :
  wpAny (model prog w) A (call (.type "dict") [.ref l]) Q E s:=by
 refine callType_codes (Q₁:=fun obj s₁=>obj=.ref s.heap.objs.size∧s₁={ s with heap:=s.heap.push { cls:=.type "dict",data:=.dict #[] } }) PySem.F.kt_called_dict (PySem.F.kt_typeCall_dict_1 _) PySem.F.entry_dict_init (kt_code_dict_new _ ⟨rfl,rfl⟩) ?_
 rintro obj s₁ ⟨rfl,rfl⟩
 have hnew:(s.heap.push { cls:=.type "dict",data:=.dict #[] }).DictOf (Zs prog w) s.heap.objs.size []:=Heap.DictOf.new s.heap
 have k0:∀ b o,s.heap.get? b=some o→(s.heap.push { cls:=.type "dict",data:=.dict #[] }).get? b=some o:=fun b o e=>Heap.get?_push_of_some _ e
 refine ⟨hnew.typeIs,PySem.F.args_dict_init_2 _ _,?_⟩
 unfold Builtin.«dict.__init__»
 refine wpAny_bind ?_
 unfold Builtin.Dict.selfAndRest
 refine wpAny_bind (wpAny_notOrdered_dict hnew.typeIs ?_)
 show wpAny _ _ (pure (s.heap.objs.size,[Value.ref l])) _ _ _
 refine wpAny_pure ?_
 show wpAny _ _ (Builtin.Dict.updateFrom "dict.__init__" s.heap.objs.size (.ref l) [] .none) _ _ _
 unfold Builtin.Dict.updateFrom
 refine wpAny_bind (wpAny_typeOf (T := "list") ⟨ol,k0 _ _ hl,hc⟩ ?_)
 rw[if_pos (by first | decide | rfl | simp)]
 refine wpAny_bind (Zf9 (k0 _ _ hl) hc hdat hd hh fun h1 tk1 hk1=>?_)
 rw[if_pos (show (none:Option Value).isNone=true from rfl)]
 refine wpAny_bind (wpAny_rule ?_)
 have hl1:h1.IsList l items:=⟨ol,hk1 _ _ (k0 _ _ hl),hc,n,hdat⟩
 have hS1:s.heap.objs.size<h1.objs.size:=by
  have e:(s.heap.push { cls:=.type "dict",data:=.dict #[] }).get? s.heap.objs.size=some { cls:=.type "dict",data:=.dict #[] }:=Heap.get?_push_size _ rfl
  exact Heap.lt_size (hk1 _ _ e)
 refine wpAny_bind (wpAny_pyIter_list hl1 ?_)
 have k2:∀ b o,h1.get? b=some o→(h1.push { cls:=.type "list_iterator",data:=.fields #[.ref l,.int 0 0] }).get? b=some o:=fun b o e=>Heap.get?_push_of_some _ e
 have hlt:l<s.heap.objs.size:=Heap.lt_size hl
 have key:=Zba (prog:=prog) (w:=w) (A:=A.in1) (R:=wants (fun r s₂=>r=.none∧Q (.ref s.heap.objs.size) s₂) E) (S:=s.heap.objs.size) (I:=h1.objs.size) (l:=l) (items:=items) (res:=Value.none) hh
  (Nat.ne_of_lt (Nat.lt_trans hlt hS1)) (Nat.ne_of_lt hS1) (Nat.ne_of_gt hlt) prs 0 [] 0 0
  { s with heap:=h1.push { cls:=.type "list_iterator",data:=.fields #[.ref l,.int 0 0] },toks:=tk1 } (by rw[hsz,Nat.zero_add]) (by rw[List.length_nil,Nat.zero_add];exact hln)
  (fun j q e=>by
   obtain ⟨b,u,e1,e2,e3⟩:=ht j q e
   have hb:b<s.heap.objs.size:=e2.lt
   exact ⟨b,u,by rw[Nat.zero_add];exact e1,Nat.ne_of_lt hb,Nat.ne_of_lt (Nat.lt_trans hb hS1),e2.keeps fun c o z=>k2 _ _ (hk1 _ _ (k0 _ _ z)),e3⟩)
  ⟨_,Heap.get?_push_size _ rfl,rfl,rfl⟩ (hl1.at fun o e=>k2 _ _ e) ((hnew.at fun o e=>hk1 _ _ e).at fun o e=>k2 _ _ e)
  (fun h' tk hd' k=>⟨rfl,h h' tk hd' fun b o e=>k b o (Nat.ne_of_lt (Heap.lt_size e)) (Nat.ne_of_lt (Nat.lt_trans (Heap.lt_size e) hS1)) (k2 _ _ (hk1 _ _ (k0 _ _ e)))⟩)
 first
  | exact wpAny_pure ⟨plainId_quiet Z1y _,key⟩
  | exact wpAny_bind (wpAny_pure (wpAny_pure ⟨plainId_quiet Z1y _,key⟩))
end
section
variable {X:Cx}
theorem Zbr {pins:List (Addr×Obj)} {σ:St} {H:Hp} {s:Shared} (I:Inv X pins σ H s):∀ {ps:List Addr} {kvs:List (Key×V)},Paired (fun p kv=>SqT X.K H p [kV kv.1,kv.2]) ps kvs →
  ∃ prs:List (Key×Value),KV kvs prs∧prs.length=ps.length∧∀ (j:Nat) (q:Key×Value),prs[j]?=some q→∃ (b:Addr) (u:Value),ps[j]?=some b∧IsTup s.heap b #[u,q.2]∧keyIs q.1 u=true
 | _,_,.nil=>⟨[],.nil,rfl,fun j q e=>by simp at e⟩
 | _,_,.cons (a:=p) (b:=kv) h t=>by
  obtain ⟨prs,r,hl,hp⟩:=Zbr I t
  obtain ⟨its,rv,ht,_⟩:=I.tuple h
  obtain ⟨u,y,ei,ru,ry⟩:=vals2 rv
  subst ei
  refine ⟨(kv.1,y)::prs,.cons ⟨rfl,ry⟩ r,by rw[List.length_cons,List.length_cons,hl],fun j q e=>?_⟩
  cases j with
  | zero=>
   have e':(kv.1,y)=q:=Option.some.inj e
   subst e'
   exact ⟨p,u,rfl,ht,kV_is (P:=X.prog) (w:=X.w) ru⟩
  | succ j=>
   obtain ⟨b,u',e1,e2,e3⟩:=hp j q (by simpa using e)
   exact ⟨b,u',by simpa using e1,e2,e3⟩
theorem Zep:∀ {ps:List Addr} {us:List Value},Vals (ps.map V.ref) us→us=ps.map Value.ref
 | [],us,r=>by
  rw[List.map_nil] at r
  cases r
  rfl
 | p::ps,us,r=>by
  rw[List.map_cons] at r
  cases r with
  | cons h t=>
   cases h
   rw[List.map_cons,← Zep t]
theorem Zds (hcalm:X.calm=true):CallR X (.type "dict") (fun xs H Q=>∃ (a:Addr) (ps:List Addr) (kvs:List (Key×V)),xs=[.ref a]∧SqL X.K H a (ps.map V.ref)∧Paired (fun p kv=>SqT X.K H p [kV kv.1,kv.2]) ps kvs ∧
  ∀ p,H p=none→Q (.ref p) (upd H p (.dK (mergeK [] kvs)))):=by
 intro pins s σ H xs us Q I r q
 obtain ⟨a,ps,kvs,ex,hq,hp,q⟩:=q
 subst ex
 obtain ⟨u,eu,rx⟩:=vals1 r
 subst eu
 cases rx
 obtain ⟨its,rv,pl,hz⟩:=I.list hq
 have ei:=Zep rv
 subst ei
 rw[List.length_map] at hz
 obtain ⟨prs,rel,hl,hpr⟩:=Zbr I hp
 obtain ⟨o,n,ho,hc,hd,hdat⟩:=pl
 refine Z5m (prs:=prs) (I.ok.hd hcalm) ho hc hd hdat (by simp[hl]) (by rw[hl];exact hz) (fun j q' e=>?_) fun h' tk hd' k=>?_
 ·obtain ⟨b,u,e1,e2,e3⟩:=hpr j q' e
  exact ⟨b,u,by simp[e1],e2,e3⟩
 ·have hm:(s.heap.objs.size==sysModules)=false:=beq_eq_false_iff_ne.mpr (Nat.ne_of_gt I.big)
  have hlen:(mergeK [] kvs).length≤sizeLine:=by
   refine Nat.le_trans (Wh kvs []) ?_
   rw[List.length_nil,Nat.zero_add,rel.length,hl]
   exact hz
  exact ⟨.ref s.heap.objs.size,upd H s.heap.objs.size (.dK (mergeK [] kvs)),I.laid (t':=tk) k (Nat.le_refl _) (show ObjOk X.prog X.w _ _ _ (.dK (mergeK [] kvs)) from ⟨hlen,hm,merged [] prs,KV.merge rel .nil,hd'⟩),rfl,q _ (I.hok.fresh (Nat.le_refl _))⟩
end
end L2
namespace L2
open PySem PySem.Spec PyProof.Rows
section
variable {X:Cx} {pins:List (Addr×Obj)} {σ:St} {H:Hp} {s:Shared} {h':Heap}
theorem Inv.turnedL {t':Nat} {ch:List Addr} (I:Inv X pins σ H s) (k:∀ b o,b ∉ ch→s.heap.get? b=some o→h'.get? b=some o) (hf:∀ b∈ch,FpOk X pins H b):Inv X pins σ H { s with heap:=h',toks:=t' }:=by
 have nit:∀ b u,H b=some u→b ∉ ch:=fun b u e z=>by
  have q:=(hf b z).1
  rw[q] at e;cases e
 refine I.step (g':=s.gens) (d':=s.drawn) (ch:=ch) (fun b hb=>⟨(hf b hb).2.2.2.1,(hf b hb).2.1,(hf b hb).2.2.2.2.1,(hf b hb).2.2.2.2.2⟩) (fun b o _ _ hc e _=>k b o hc e) (fun b o _ _ hc e _=>⟨o.slots,k b o hc e⟩)
  (fun _ _ _ _ n=>n) (fun b o hc e=>⟨o,k b o hc e⟩) (fun _ _ e=>e) (fun _ _ _ e=>e) (fun b ps e=>⟨#[],by rw[e];simp⟩) (fun m hm=>?_) (fun b u e=>?_) I.bare
 ·obtain ⟨o,es,ep,ho,r⟩:=hm
  exact ⟨o,es,ep,k _ o (fun z=>(hf _ z).2.1 rfl) ho,r⟩
 ·refine (I.hok b u e).stay (fun c v hc q=>k c v ?_ q) (fun _ q=>q) fun _ _ q=>q
  rcases hc with z | z
  ·rw[z];exact nit b u e
  ·exact nit c _ z
theorem Inv.turnedNew {t':Nat} {ch:List Addr} {T:Addr} {ob:HO} (I:Inv X pins σ H s) (k:∀ b o,b ∉ ch→s.heap.get? b=some o→h'.get? b=some o) (hf:∀ b∈ch,FpOk X pins H b) (hT:s.heap.objs.size≤T)
  (new:ObjOk X.prog X.w (upd H T ob) h' T ob):Inv X pins σ (upd H T ob) { s with heap:=h',toks:=t' }:=by
 have hn:H T=none:=I.hok.fresh hT
 have nit:∀ b u,H b=some u→b ∉ ch:=fun b u e z=>by
  have q:=(hf b z).1
  rw[q] at e;cases e
 refine I.step (g':=s.gens) (d':=s.drawn) (ch:=ch) (fun b hb=>⟨(hf b hb).2.2.2.1,(hf b hb).2.1,(hf b hb).2.2.2.2.1,(hf b hb).2.2.2.2.2⟩) (fun b o _ _ hc e _=>k b o hc e) (fun b o _ _ hc e _=>⟨o.slots,k b o hc e⟩)
  (fun b o _ e n=>?_) (fun b o hc e=>⟨o,k b o hc e⟩) (fun b xs e=>?_) (fun b o u e=>?_) (fun b ps e=>⟨#[],?_⟩) (fun m hm=>?_) (fun b u e=>?_) I.bare
 ·rw[Z8 (Nat.ne_of_lt (Nat.lt_of_lt_of_le (Heap.lt_size e) hT))];exact n
 ·rw[Z8 (Z6 e hn)];exact e
 ·rw[Z8 (Z6 e hn)];exact e
 ·rw[Z8 (Z6 e hn),e];simp
 ·obtain ⟨o,es,ep,ho,r⟩:=hm
  exact ⟨o,es,ep,k _ o (fun z=>(hf _ z).2.1 rfl) ho,r⟩
 ·by_cases hb:b=T
  ·subst hb
   rw[Z2] at e
   cases e
   exact new
  ·rw[Z8 hb] at e
   refine (I.hok b u e).stay (fun c v hc q=>k c v ?_ q) (fun c q=>by rw[Z8 (Z6 q hn)];exact q) fun c xs q=>by rw[Z8 (Z6 q hn)];exact q
   rcases hc with z | z
   ·rw[z];exact nit b u e
   ·exact nit c _ z
theorem Inv.lock {d:Addr} {u:HO} (I:Inv X pins σ H s) (h:H d=some u) (mu:Mut (some u)):∃ od,Inv X pins σ (upd H d (.frz od u)) s:=by
 have x:=I.hok d u h
 have ex:∃ od,s.heap.get? d=some od:=by
  cases u with
  | lst xs=>obtain ⟨_,_,_,_,e⟩:=x;exact ⟨_,e⟩
  | dK kvs=>obtain ⟨_,_,_,_,o,_,_,e,_⟩:=x;exact ⟨o,e⟩
  | dT kvs=>obtain ⟨_,_,_,_,o,_,_,e,_⟩:=x;exact ⟨o,e⟩
  | dN kvs=>obtain ⟨_,_,_,_,o,_,_,e,_⟩:=x;exact ⟨o,e⟩
  | set S n=>obtain ⟨o,_,_,_,e,_⟩:=x;exact ⟨o,e⟩
  | ins C dx fs=>obtain ⟨_,_,_,e,_⟩:=x;exact ⟨_,e⟩
  | ext φ=>obtain ⟨_,⟨_,e⟩,_⟩:=x;exact ⟨_,e⟩
  | _=>exact False.elim mu
 obtain ⟨od,e⟩:=ex
 have new:ObjOk X.prog X.w (upd H d (.frz od u)) s.heap d (.frz od u):=by
  refine ⟨e,x.stay (fun b v _ q=>q) (fun b q=>?_) fun b xs q=>?_⟩
  ·rw[Z8 (fun z=>by rw[z,h] at q;cases q;exact mu)];exact q
  ·rw[Z8 (fun z=>by rw[z,h] at q;cases q;exact mu)];exact q
 exact ⟨od,I.write (x:=d) (e:=d) (t':=s.toks) (h':=s.heap) (by rw[h];exact mu) (.inl rfl) (fun b v _ q=>q) ⟨od,e⟩ new⟩
theorem Inv.nofrz {d:Addr} {u:HO} (I:Inv X pins σ H s) (h:H d=some u) (mu:Mut (some u)):∀ o' u',X.H_0 d≠some (.frz o' u'):=fun o' u' e=>by
 have q:=I.base.frzs d o' u' e
 rw[h] at q
 cases q
 exact mu
theorem Inv.unlock {d:Addr} {od:Obj} {u:HO} (I:Inv X pins σ H s) (h:H d=some (.frz od u)) (hn:∀ o' u',X.H_0 d≠some (.frz o' u')):Inv X pins σ (upd H d u) s:=by
 have neH:∀ b o,H b=some o→(∀ o' u',o≠.frz o' u')→b≠d:=fun b o e hne z=>by
  rw[z,h] at e
  cases e
  exact hne _ _ rfl
 have neN:∀ b,H b=none→b≠d:=fun b e z=>by rw[z,h] at e;cases e
 refine ⟨I.ok,I.os,I.bare,⟨I.base.keep,I.base.slot,fun b o e n hx=>?_,I.base.there,fun b xs e=>?_,fun b o x e=>?_,fun b ps e=>?_⟩,I.loc,I.cell,?_,fun x c e=>?_,fun p hp=>?_,fun b o e=>?_,I.len⟩
 ·rw[Z8 (neN b (I.base.free b o e n hx))];exact I.base.free b o e n hx
 ·have q:=I.base.tups b xs e
  rw[Z8 (neH b _ q (fun _ _ z=>nomatch z))];exact q
 ·have q:=I.base.frzs b o x e
  rw[Z8 (fun z=>by rw[z] at e;exact hn _ _ e)];exact q
 ·obtain ⟨m,q⟩:=I.base.tbls b ps e
  exact ⟨m,by rw[Z8 (neH b _ q (fun _ _ z=>nomatch z))];exact q⟩
 ·rw[Z8 (neN _ I.free)];exact I.free
 ·rw[Z8 (neN c (I.freeC x c e))];exact I.freeC x c e
 ·obtain ⟨e,n,r⟩:=I.pin p hp
  exact ⟨e,by rw[Z8 (neN _ n)];exact n,r⟩
 ·by_cases hb:b=d
  ·rw[hb,Z2] at e
   cases e
   rw[hb]
   obtain ⟨_,x⟩:=I.hok d _ h
   exact x.stay (fun c v _ q=>q) (fun c q=>by rw[Z8 (neH c _ q (fun _ _ z=>nomatch z))];exact q) fun c xs q=>by rw[Z8 (neH c _ q (fun _ _ z=>nomatch z))];exact q
  ·rw[Z8 hb] at e
   exact (I.hok b o e).stay (fun c v _ q=>q) (fun c q=>by rw[Z8 (neH c _ q (fun _ _ z=>nomatch z))];exact q) fun c xs q=>by rw[Z8 (neH c _ q (fun _ _ z=>nomatch z))];exact q
end
def tLock (t:TS):TS:=fun D σ H=>∃ d u,H d=some u∧Mut (some u)∧∀ od,t ⟨fun σ' H'=>H' d=some (.frz od u)∧D.nx σ' (upd H' d u),fun v H'=>H' d=some (.frz od u)∧D.rt v (upd H' d u),fun σ' H'=>H' d=some (.frz od u)∧D.bk σ' (upd H' d u),fun σ' H'=>H' d=some (.frz od u)∧D.ct σ' (upd H' d u)⟩ σ (upd H d (.frz od u))
def tLockE (t:TE):TE:=fun σ H Q=>∃ d u,H d=some u∧Mut (some u)∧∀ od,t σ (upd H d (.frz od u)) fun v H'=>H' d=some (.frz od u)∧Q v (upd H' d u)
section
variable {X:Cx}
theorem ps_lock {st:Stmt} {t:TS} (h:PS X st t):PS X st (tLock t):=by
 intro pins s σ H D I hw
 obtain ⟨d,u,hd,mu,hw⟩:=hw
 obtain ⟨od,I1⟩:=I.lock hd mu
 refine thn (h pins s σ _ _ I1 (hw od)) fun f s1 q=>?_
 cases f with
 | next=>obtain ⟨σ',H',I2,e,q⟩:=q;exact ⟨σ',_,I2.unlock e (I.nofrz hd mu),q⟩
 | brk=>obtain ⟨σ',H',I2,e,q⟩:=q;exact ⟨σ',_,I2.unlock e (I.nofrz hd mu),q⟩
 | cont=>obtain ⟨σ',H',I2,e,q⟩:=q;exact ⟨σ',_,I2.unlock e (I.nofrz hd mu),q⟩
 | ret v=>obtain ⟨x,σ',H',I2,r,e,q⟩:=q;exact ⟨x,σ',_,I2.unlock e (I.nofrz hd mu),r,q⟩
theorem Zan {e:Expr} {t:TE} (h:PE X e t):PE X e (tLockE t):=by
 intro pins s σ H Q I hw
 obtain ⟨d,u,hd,mu,hw⟩:=hw
 obtain ⟨od,I1⟩:=I.lock hd mu
 refine thn (h pins s σ _ _ I1 (hw od)) fun v s1 ⟨x,H1,I2,r,e2,q⟩=>?_
 exact ⟨x,_,I2.unlock e2 (I.nofrz hd mu),r,q⟩
theorem Z9e {tg:Expr} {pins:List (Addr×Obj)} {σ:St} {H:Hp} {s:Shared} {R:It→Hp→Prop} {J:It} {tn:Nat→Heap→Prop} {tk:Nat} (I:Inv X pins σ H s) (o:Obj)
  (T:Turn X.prog X.w X.K tg J [s.heap.objs.size] s.heap.objs.size tn) (st:tn 0 (s.heap.push o)) (q:R J H):PIE X pins σ tg R (.ref s.heap.objs.size) { s with heap:=s.heap.push o,toks:=tk }:=by
 refine ⟨s.heap.objs.size,[s.heap.objs.size],tn,J,H,rfl,I.kept fun b ob e=>Heap.get?_push_of_some _ e,T,st,fun b hb=>?_,q⟩
 have e:b=s.heap.objs.size:=by simpa using hb
 subst e
 exact I.fpOk (Nat.le_refl _) (I.hok.fresh (Nat.le_refl _))
end
noncomputable def Itc (lo c:Int) (n:Nat):It:=⟨fun i _=>i<n,fun i H x H'=>H'=H∧x=.int (lo+(i:Nat)*c),fun i _=>n≤i⟩
theorem Za1 {P:Program} {w:World} {K:PySem.W.Frag} {tg:Expr} (it:Addr) (lo c:Int) (n:Nat):Turn P w K tg (Itc lo c n) [it] it (fun i h=>IsRangeIter h it (lo+(i:Nat)*c) ((n:Int)-(i:Nat)) c) where
 mem:=by simp
 obj:=fun i h st b hb=>by
  have e:b=it:=by simpa using hb
  subst e
  exact ⟨_,st,fun v z=>nomatch z⟩
 keep:=fun i h h' st k=>k it (by simp) _ st
 item:=by
  intro X hP hw hK hc i pins s σ H E I hf st hg
  subst hP hw hK
  obtain ⟨f0,f1,f2,f3,f4,f5⟩:=hf it (by simp)
  have W:=Walks.range (prog:=X.prog) (w:=X.w) (I.ok.hd hc) it lo c n
  refine W.item i s _ _ hg st fun v h' tk hv st' kk=>?_
  obtain ⟨t,rfl⟩:=hv
  have I1:Inv X pins σ H { s with heap:=h',toks:=tk }:=I.turned (fun b o hb e=>kk b o (by simpa using hb) e) f0 f1 f3 f4 f5
  exact ⟨_,rfl,go_of (s:={ s with heap:=h',toks:=tk }) (n := "range_iterator") st' rfl rfl (by decide) ⟨.int (lo+(i:Nat)*c),H,I1,⟨t,rfl⟩,⟨rfl,rfl⟩,st',fun b hb=>(hf b hb).1⟩⟩
 done:=by
  intro X hP hw hK hc i pins s σ H E I hf st hg
  subst hP hw hK
  obtain ⟨f0,f1,f2,f3,f4,f5⟩:=hf it (by simp)
  exact wpAny_pyNext_range_end (I.ok.hd hc) st (by have:n≤i:=hg;omega) fun h' eb=>⟨rfl,I.turned (t':=s.toks) (fun b o hb e=>eb b o hb e) f0 f1 f3 f4 f5⟩
 self:=fun A i s Q E st h=>wpAny_pyIter_rangeiter st h
def RgC (i j c:Int) (n:Nat):Prop:=c≠0∧c.natAbs<1073741824∧Builtin.Range.small i j c=true∧Builtin.Range.rangeSize i j c=n
def iRng3 (ta:TA):TI:=fun σ H R=>ta σ H fun vs H1=>∃ (i j c:Int) (n:Nat),vs=[.int i,.int j,.int c]∧RgC i j c n∧R (Itc i c n) H1
section
variable {X:Cx} {tg:Expr}
theorem Zew {a b c:Expr} {ta:TA} {p pos:Pos} (hg:Gl X "range") (hm:X.mg "range" = none) (ha:PA X [a,b,c] ta)
  (hs:starEach [a,b,c] X.env=(false,eval a X.env)::starEach [b,c] X.env:=by rfl) (hpl:(backTo pos (starEach [b,c] X.env)).any (·.1)=false:=by rfl) :
  PI X tg (.Call (.Name "range" p) [a,b,c] [] pos) (iRng3 ta):=by
 intro pins s σ H R I h
 refine Call_ (Z58 I hg hm boot_range (PyProof.Rows.callWith_type1 (thn (ha pos pins s σ H _ I h) fun us s1 ⟨vs,H1,I1,r1,q1⟩=>?_) hs hpl))
 obtain ⟨i,j,k,n,e,⟨c0,c1,c2,c3⟩,q⟩:=q1
 subst e
 cases r1 with
 | cons r rr=>
  cases rr with
  | cons r' rr=>
   cases rr with
   | cons r'' rr=>
    cases rr
    obtain ⟨t,rfl⟩:=r
    obtain ⟨t',rfl⟩:=r'
    obtain ⟨t'',rfl⟩:=r''
    refine call_range_3 c0 ?_ (.inl (PyProof.noPylong_small c1))
    refine wpAny_pyIter_range (IsRange.new ..) c2 ?_
    have I2:Inv X pins σ H1 { s1 with heap:=s1.heap.push { cls:=.type "range",data:=.fields #[.int i t,.int j t',.int k t''] } }:=I1.kept (t':=s1.toks) fun b o e=>Heap.get?_push_of_some _ e
    refine Z9e (tk:=s1.toks) I2 _ (Za1 _ i k n) ?_ q
    have e1:i+((0:Nat):Int)*k=i:=by simp
    have e2:(n:Int)-((0:Nat):Int)=Builtin.Range.rangeSize i j k:=by rw[c3];simp
    show IsRangeIter _ _ (i+((0:Nat):Int)*k) ((n:Int)-((0:Nat):Int)) k
    rw[e1,e2]
    exact Heap.get?_push_size _ rfl
end
theorem Zdj {lo c:Int} {n:Nat} {g:TG} {tb:TS} {D:Ends} {σ:St} {H:Hp} (Pv:Nat→St→Hp→Prop) (h0:Pv 0 σ H)
  (hs:∀ i σ H,i<n→Pv i σ H→g (.int (lo+(i:Nat)*c)) σ H fun σ2 H2=>tb { D with nx:=Pv (i+1),ct:=Pv (i+1),bk:=D.nx } σ2 H2) (hd:∀ σ H,Pv n σ H→D.nx σ H) :
  ∃ W:Nat→Nat→St→Hp→Prop,(∃ m,W 0 m σ H)∧∀ i m σ H,W i m σ H →
   ((Itc lo c n).stop i H∧D.nx σ H)∨((Itc lo c n).go i H∧∃ N:St→Hp→Prop,(∀ σ' H',N σ' H'→∃ m',m'<m∧W (i+1) m' σ' H')∧∀ x H',(Itc lo c n).yld i H x H'→g x σ H' fun σ2 H2=>tb { D with nx:=N,ct:=N,bk:=D.nx } σ2 H2):=by
 refine ⟨fun i m σ H=>m=n-i∧i≤n∧Pv i σ H,⟨n,by simp,Nat.zero_le _,h0⟩,?_⟩
 rintro i m σ H ⟨rfl,hi,p⟩
 by_cases hlt:i<n
 ·refine .inr ⟨hlt,Pv (i+1),fun σ' H' p'=>⟨n-(i+1),by omega,rfl,hlt,p'⟩,fun x H' y=>?_⟩
  obtain ⟨e,y⟩:=y
  subst e y
  exact hs i σ _ hlt p
 ·have e:i=n:=by omega
  subst e
  exact .inl ⟨Nat.le_refl _,hd σ H p⟩
section
variable {X:Cx} {tg:Expr}
end
section
variable {prog:Program} {w:World} {A:Around} {E:Value→Shared→Prop} {s:Shared}
theorem Z2a {d:Addr} {o:Obj} {es:Array DictEntry} {ep:Nat} {Q:Value→Shared→Prop} (hd:(d==sysModules)=false) (ho:s.heap.get? d=some o) (hc:o.ExactDict) (hdat:o.data=.dict es ep)
  (hQ:Q (.ref s.heap.objs.size) { s with heap:=s.heap.push { cls:=.type "dict_keyiterator",data:=.fields #[.ref d,.int 0 0,.int es.size 0,.int ep 0] } }) :
  wpAny (model prog w) A (pyIter (.ref d)) Q E s:=by
 have hT:s.TypeIs (.ref d) "dict" := ⟨o,ho,hc.1⟩
 refine wpAny_pyIter_slot hT F.slot_dict_iter (wpAny_call_entry F.slot_dict_iter hT F.entry_dict_iter ?_ (F.args_dict_iter_1 _))
 unfold Builtin.«dict.__iter__»
 refine wpAny_bind ?_
 unfold Builtin.Dict.dictSlotNone
 refine wpAny_bind (wpAny_notOrdered_dict hT ?_)
 show wpAny _ _ (pure (Value.ref d)) _ _ s
 refine wpAny_pure ?_
 show wpAny _ _ (Builtin.Dict.showsAll d >>= _) _ _ s
 unfold Builtin.Dict.showsAll
 rw[if_neg (by rw[hd];exact Bool.false_ne_true)]
 refine wpAny_bind (wpAny_pure ?_)
 refine wpAny_bind (wpAny_dictEntries ho hdat ?_)
 refine wpAny_bind (wpAny_dictEpoch ho hdat ?_)
 refine wpAny_bind (wpAny_newObj_type (wpAny_pure ⟨_,rfl, "dict_keyiterator",_,⟨_,Heap.get?_push_size _ rfl,rfl⟩,F.slot_dict_keyiterator_next.lookup,?_⟩))
 simpa [rawInt] using hQ
theorem We {it d:Addr} {i n ep:Nat} {od:Obj} {es:Array DictEntry} {en:DictEntry} {Q:Option Value→Shared→Prop} (hit:s.heap.IsKeyIter it d i n ep) (hod:s.heap.get? d=some od) (hdd:od.data=.dict es ep)
  (hsz:es.size=n) (hx:es[i]?=some en) (hQ:∀ h',h'.IsKeyIter it d (i+1) n ep→Heap.SameBut it s.heap h'→Q (some en.key) { s with heap:=h' }):wpAny (model prog w) A (pyNext (.ref it)) Q E s:=by
 obtain ⟨o,ho,hc,hd⟩:=id hit
 unfold pyNext
 refine wpAny_bind (wpAny_attempt (wpAny_callSpecial?_slot (name:=Str.ofString "__next__") hit.typeIs F.slot_dict_keyiterator_next
  (wpAny_call_entry F.slot_dict_keyiterator_next hit.typeIs F.entry_dict_keyiterator_next ?_ (F.args_dict_keyiterator_next_1 _))))
 refine wpAny_bind (wpAny_pure ?_)
 refine wpAny_bind ?_
 refine wpAny_bind ?_
 first | refine wpAny_bind (wpAny_typeNameOfWhole_keyiter hit.typeIs (wpAny_pure ?_)) | refine wpAny_bind (wpAny_typeNameOf_keyiter hit.typeIs (wpAny_pure ?_))
 refine wpAny_bind (wpAny_fieldsOf ho hd ?_)
 have hown:Builtin.Dict_items.ownsTuple "dict_keyiterator" = false:=by decide
 simp only[hown,Bool.false_eq_true,if_false]
 show wpAny _ _ (if (Value.ref d==Value.none)=true then _ else _) _ _ s
 rw[if_neg (show ¬ ((Value.ref d==Value.none)=true) from Bool.false_ne_true)]
 refine wpAny_bind (wpAny_pure ?_)
 refine wpAny_bind (wpAny_dictEntries hod hdd ?_)
 rw[if_neg (by rw[hsz];simp)]
 refine wpAny_bind (wpAny_pure ?_)
 refine wpAny_bind (wpAny_dictEpoch hod hdd ?_)
 rw[if_neg (by simp)]
 refine wpAny_pure ?_
 obtain ⟨hlt',hen⟩:=Array.getElem?_eq_some_iff.mp hx
 simp only[show ¬ ((i:Int)<0) from by omega,if_false,Int.toNat_natCast,Array.getElem?_eq_getElem hlt']
 refine wpAny_bind ?_
 first | refine wpAny_bind (wpAny_typeNameOfWhole_keyiter hit.typeIs (wpAny_pure ?_)) | refine wpAny_bind (wpAny_typeNameOf_keyiter hit.typeIs (wpAny_pure ?_))
 refine wpAny_bind (wpAny_isOneOf_keyiter hit.typeIs ?_)
 show wpAny _ _ (setField (.ref it) 1 (rawInt ((i:Int)+1)) >>= _) _ _ s
 refine wpAny_bind (wpAny_setField ho hd (by simp) ?_)
 have hit':(s.heap.update it (Obj.mapFields (·.setIfInBounds 1 (rawInt ((i:Int)+1))))).IsKeyIter it d (i+1) n ep:=
  ⟨_,Heap.get?_update_self _ ho (Obj.isFreed_of_fields (Obj.data_mapFields hd _)),(Obj.cls_mapFields ..).trans hc,by rw[Obj.data_mapFields hd];simp[rawInt]⟩
 refine wpAny_bind (wpAny_holding ?_)
 refine wpAny_bind (wpAny_isOneOf_keyiter (s:={ s with heap:=s.heap.update it (Obj.mapFields (·.setIfInBounds 1 (rawInt ((i:Int)+1)))) }) hit'.typeIs ?_)
 show wpAny _ _ (pure es[i].key) _ _ _
 rw[hen]
 exact wpAny_pure (wpAny_pure ⟨_,rfl,wpAny_pure (hQ _ hit' (Heap.SameBut.update ..))⟩)
theorem Ue {it d:Addr} {i n ep:Nat} {od:Obj} {es:Array DictEntry} {Q:Option Value→Shared→Prop} (hh:A.handled=none) (hit:s.heap.IsKeyIter it d i n ep) (hod:s.heap.get? d=some od) (hdd:od.data=.dict es ep)
  (hsz:es.size=n) (hge:n≤i) (hQ:∀ h',Heap.ExtBut it s.heap h'→Q none { s with heap:=h' }):wpAny (model prog w) A (pyNext (.ref it)) Q E s:=by
 obtain ⟨o,ho,hc,hd⟩:=id hit
 unfold pyNext
 refine wpAny_bind (wpAny_attempt (wpAny_callSpecial?_slot (name:=Str.ofString "__next__") hit.typeIs F.slot_dict_keyiterator_next
  (wpAny_call_entry F.slot_dict_keyiterator_next hit.typeIs F.entry_dict_keyiterator_next ?_ (F.args_dict_keyiterator_next_1 _))))
 refine wpAny_bind (wpAny_pure ?_)
 refine wpAny_bind ?_
 refine wpAny_bind ?_
 first | refine wpAny_bind (wpAny_typeNameOfWhole_keyiter hit.typeIs (wpAny_pure ?_)) | refine wpAny_bind (wpAny_typeNameOf_keyiter hit.typeIs (wpAny_pure ?_))
 refine wpAny_bind (wpAny_fieldsOf ho hd ?_)
 have hown:Builtin.Dict_items.ownsTuple "dict_keyiterator" = false:=by decide
 simp only[hown,Bool.false_eq_true,if_false]
 show wpAny _ _ (if (Value.ref d==Value.none)=true then _ else _) _ _ s
 rw[if_neg (show ¬ ((Value.ref d==Value.none)=true) from Bool.false_ne_true)]
 refine wpAny_bind (wpAny_pure ?_)
 refine wpAny_bind (wpAny_dictEntries hod hdd ?_)
 rw[if_neg (by rw[hsz];simp)]
 refine wpAny_bind (wpAny_pure ?_)
 refine wpAny_bind (wpAny_dictEpoch hod hdd ?_)
 rw[if_neg (by simp)]
 refine wpAny_pure ?_
 have hge':es.size≤i:=by rw[hsz];exact hge
 simp only[show ¬ ((i:Int)<0) from by omega,if_false,Int.toNat_natCast,Array.getElem?_eq_none hge']
 refine wpAny_bind ?_
 first | refine wpAny_bind (wpAny_typeNameOfWhole_keyiter hit.typeIs (wpAny_pure ?_)) | refine wpAny_bind (wpAny_typeNameOf_keyiter hit.typeIs (wpAny_pure ?_))
 show wpAny _ _ (setField (.ref it) 0 .none >>= _) _ _ s
 refine wpAny_bind (wpAny_setField ho hd (by simp) ?_)
 show wpAny _ _ (newExc (.type "StopIteration") [] >>= _) _ _ _
 refine wpAny_bind ?_
 simp only[newExc,newTuple]
 refine wpAny_bind (wpAny_newObj_type ?_ (by size_fits))
 refine wpAny_bind (m:=firstArgMember _ _) (wpAny_of_eq (a:=Value.none) (by first | rfl | (simp only[firstArgMember];rfl)) ?_)
 refine wpAny_newObj_type ?_ (by size_fits)
 simp only[raiseNew]
 refine wpAny_bind (wpAny_handled ?_)
 rw[show A.in1.handled=none from hh]
 refine wpAny_bind (wpAny_pure (wpAny_throw ?_))
 refine wpAny_bind (wpAny_isInstance (T := "StopIteration") (b:=true) ⟨_,Heap.get?_push_size _ rfl,rfl⟩ isSubtype_stop ?_)
 exact wpAny_pure (hQ _ (((Heap.SameBut.update ..).extBut.push _).push _))
end
theorem Zho {κ:Type} {kvs:List (κ×V)} {vs:List (κ×Value)} (h:KV kvs vs):∀ {i:Nat} {k:κ} {v:V},kvs[i]?=some (k,v)→∃ u,vs[i]?=some (k,u)∧RelV v u:=by
 unfold KV at h
 induction h with
 | nil=>intro i k v e;simp at e
 | @cons a b l₁ l₂ r t ih=>
  intro i k v e
  cases i with
  | zero=>
   simp only[List.getElem?_cons_zero,Option.some.injEq] at e
   subst e
   refine ⟨b.2,?_,r.2⟩
   simp only[List.getElem?_cons_zero]
   exact congrArg some (Prod.ext r.1.symm rfl)
  | succ j=>
   simp only[List.getElem?_cons_succ] at e ⊢
   exact ih e
theorem Z2t {α β:Type} {G:α→β→Prop} {l₁:List α} {l₂:List β} (h:Paired G l₁ l₂):∀ {i:Nat} {a:α},l₁[i]?=some a→∃ b,l₂[i]?=some b∧G a b:=by
 induction h with
 | nil=>intro i a e;simp at e
 | @cons a b l₁ l₂ r t ih=>
  intro i a' e
  cases i with
  | zero=>
   simp only[List.getElem?_cons_zero,Option.some.injEq] at e
   subst e
   exact ⟨b,rfl,r⟩
  | succ j=>
   simp only[List.getElem?_cons_succ] at e ⊢
   exact ih e
theorem Z82 {k:Key} {u:Value} (h:keyIs k u=true):RelV (kV k) u:=by
 rcases Yn h with ⟨i,t,rfl,rfl⟩ | ⟨x,t,rfl,rfl⟩
 ·exact ⟨t,rfl⟩
 ·exact ⟨t,rfl⟩
section
variable {X:Cx} {pins:List (Addr×Obj)} {σ:St} {H:Hp} {s:Shared} {d:Addr} {o:Obj}
theorem Inv.frzK {kvs:List (Key×V)} (I:Inv X pins σ H s) (h:H d=some (.frz o (.dK kvs))) :
  (d==sysModules)=false∧s.heap.get? d=some o∧o.ExactDict∧∃ (es:Array DictEntry) (ep:Nat) (vs:List (Key×Value)),o.data=.dict es ep∧es.size=kvs.length∧KV kvs vs∧s.heap.DictAt (Zs X.prog X.w) d vs ep:=by
 obtain ⟨hd,z,hs,vs,kv,o',es,ep,ho,hx,hdt,r⟩:=I.hok d _ h
 rw[hd] at ho
 cases ho
 refine ⟨hs,hd,hx,es,ep,vs,hdt,?_,kv,o,es,hd,hx,hdt,r⟩
 have l1:=r.2.1.length
 have l2:kvs.length=vs.length:=Paired.length kv
 rw[Array.length_toList] at l1
 omega
theorem Inv.frzT {kvs:List (List Key×V)} (I:Inv X pins σ H s) (h:H d=some (.frz o (.dT kvs))) :
  (d==sysModules)=false∧s.heap.get? d=some o∧o.ExactDict∧∃ (es:Array DictEntry) (ep:Nat),o.data=.dict es ep∧es.size=kvs.length ∧
   ∀ (i:Nat) (k:List Key) (v:V),kvs[i]?=some (k,v)→∃ (en:DictEntry) (q:Addr),es[i]?=some en∧en.key=.ref q∧H q=some (.tup (k.map kV)):=by
 obtain ⟨hd,z,hs,xs,pr,o',es,ep,ho,hx,hdt,he,_⟩:=I.hok d _ h
 rw[hd] at ho
 cases ho
 refine ⟨hs,hd,hx,es,ep,hdt,?_,fun i k v e=>?_⟩
 ·have l1:es.size=xs.length:=size_of_entries he
  have l2:kvs.length=xs.length:=Paired.length pr
  omega
 ·obtain ⟨b,hb,e1,e2,_⟩:=Z2t pr e
  have q:=entry_at he i
  rw[hb] at q
  exact ⟨_,b.2.1,q,rfl,e2⟩
end
noncomputable def Itk (d:Addr) (o:Obj) (kvs:List (Key×V)):It:=
 ⟨fun i H=>H d=some (.frz o (.dK kvs))∧i<kvs.length,fun i H x H'=>H'=H∧∃ k v,kvs[i]?=some (k,v)∧x=kV k,fun i H=>H d=some (.frz o (.dK kvs))∧kvs.length≤i⟩
noncomputable def Itkt (d:Addr) (o:Obj) (kvs:List (List Key×V)):It:=
 ⟨fun i H=>H d=some (.frz o (.dT kvs))∧i<kvs.length,fun i H x H'=>H'=H∧∃ (k:List Key) (v:V) (q:Addr),kvs[i]?=some (k,v)∧x=.ref q∧H q=some (.tup (k.map kV)),fun i H=>H d=some (.frz o (.dT kvs))∧kvs.length≤i⟩
def Iti (d:Addr) (o:Obj) (kvs:List (Key×V)):It:=
 ⟨fun i H=>H d=some (.frz o (.dK kvs))∧i<kvs.length,fun i H x H'=>∃ T k v,kvs[i]?=some (k,v)∧x=.ref T∧H T=none∧H'=upd H T (.tup [kV k,v]),fun i H=>H d=some (.frz o (.dK kvs))∧kvs.length≤i⟩
theorem Z0j {o:Obj} {es es':Array DictEntry} {ep ep':Nat} (h:o.data=.dict es ep) (h':o.data=.dict es' ep'):es'=es∧ep'=ep:=by
 rw[h] at h'
 cases h'
 exact ⟨rfl,rfl⟩
section
variable {P:Program} {w:World} {K:PySem.W.Frag} {tg:Expr} {d:Addr} {o:Obj} {es:Array DictEntry} {ep:Nat}
theorem Ze4 {kvs:List (Key×V)} (it:Addr) (hod:o.data=.dict es ep):Turn P w K tg (Itk d o kvs) [it] it (fun i h=>h.IsKeyIter it d i kvs.length ep) where
 mem:=by simp
 obj:=fun i h st b hb=>by
  have e:b=it:=by simpa using hb
  subst e
  obtain ⟨oi,e,c,dd⟩:=st
  exact ⟨oi,e,fun v z=>by rw[dd] at z;cases z⟩
 keep:=fun i h h' st k=>st.at fun oi e=>k it (by simp) oi e
 item:=by
  intro X hP hw hK hc i pins s σ H E I hf st hg
  subst hP hw hK
  obtain ⟨hd,hi⟩:=hg
  obtain ⟨f0,f1,f2,f3,f4,f5⟩:=hf it (by simp)
  obtain ⟨hs,hgd,hx,es',ep',vs,hdt,hsz,kv,hm⟩:=I.frzK hd
  obtain ⟨rfl,rfl⟩:=Z0j hod hdt
  obtain ⟨⟨k,v⟩,hkv⟩:∃ p,kvs[i]?=some p:=⟨kvs[i],List.getElem?_eq_getElem hi⟩
  obtain ⟨u,hu,ru⟩:=Zho kv hkv
  have hl:kvs.length=vs.length:=Paired.length kv
  rw[hl] at st
  refine wpAny_pyNext_dict_item st hm hu fun key h' hkey st' sb=>?_
  have I1:Inv X pins σ H { s with heap:=h' }:=I.turned (t':=s.toks) (fun b ob hb e=>(sb.2 b hb).trans e) f0 f1 f3 f4 f5
  obtain ⟨oi,e,c,dd⟩:=id st'
  refine ⟨key,rfl,go_of (s:={ s with heap:=h' }) e c dd (by decide) ⟨kV k,H,I1,Z82 (show keyIs k key=true from hkey),⟨rfl,k,v,hkv,rfl⟩,?_,fun b hb=>(hf b hb).1⟩⟩
  show h'.IsKeyIter it d (i+1) kvs.length _
  rw[hl]
  exact st'
 done:=by
  intro X hP hw hK hc i pins s σ H E I hf st hg
  subst hP hw hK
  obtain ⟨hd,hi⟩:=hg
  obtain ⟨f0,f1,f2,f3,f4,f5⟩:=hf it (by simp)
  obtain ⟨hs,hgd,hx,es',ep',vs,hdt,hsz,kv,hm⟩:=I.frzK hd
  obtain ⟨rfl,rfl⟩:=Z0j hod hdt
  exact Ue (I.ok.hd hc) st hgd hdt hsz hi fun h' eb=>⟨rfl,I.turned (t':=s.toks) (fun b ob hb e=>eb b ob hb e) f0 f1 f3 f4 f5⟩
 self:=fun A i s Q E st h=>wpAny_pyIter_keyiter st h
theorem Zcj {kvs:List (List Key×V)} (it:Addr) (hod:o.data=.dict es ep):Turn P w K tg (Itkt d o kvs) [it] it (fun i h=>h.IsKeyIter it d i kvs.length ep) where
 mem:=by simp
 obj:=fun i h st b hb=>by
  have e:b=it:=by simpa using hb
  subst e
  obtain ⟨oi,e,c,dd⟩:=st
  exact ⟨oi,e,fun v z=>by rw[dd] at z;cases z⟩
 keep:=fun i h h' st k=>st.at fun oi e=>k it (by simp) oi e
 item:=by
  intro X hP hw hK hc i pins s σ H E I hf st hg
  subst hP hw hK
  obtain ⟨hd,hi⟩:=hg
  obtain ⟨f0,f1,f2,f3,f4,f5⟩:=hf it (by simp)
  obtain ⟨hs,hgd,hx,es',ep',hdt,hsz,ent⟩:=I.frzT hd
  obtain ⟨rfl,rfl⟩:=Z0j hod hdt
  obtain ⟨⟨k,v⟩,hkv⟩:∃ p,kvs[i]?=some p:=⟨kvs[i],List.getElem?_eq_getElem hi⟩
  obtain ⟨en,q,hen,hkey,hq⟩:=ent i k v hkv
  refine We st hgd hdt hsz hen fun h' st' sb=>?_
  have I1:Inv X pins σ H { s with heap:=h' }:=I.turned (t':=s.toks) (fun b ob hb e=>(sb.2 b hb).trans e) f0 f1 f3 f4 f5
  obtain ⟨oi,e,c,dd⟩:=id st'
  exact ⟨en.key,rfl,go_of (s:={ s with heap:=h' }) e c dd (by decide) ⟨.ref q,H,I1,hkey,⟨rfl,k,v,q,hkv,rfl,hq⟩,st',fun b hb=>(hf b hb).1⟩⟩
 done:=by
  intro X hP hw hK hc i pins s σ H E I hf st hg
  subst hP hw hK
  obtain ⟨hd,hi⟩:=hg
  obtain ⟨f0,f1,f2,f3,f4,f5⟩:=hf it (by simp)
  obtain ⟨hs,hgd,hx,es',ep',hdt,hsz,ent⟩:=I.frzT hd
  obtain ⟨rfl,rfl⟩:=Z0j hod hdt
  exact Ue (I.ok.hd hc) st hgd hdt hsz hi fun h' eb=>⟨rfl,I.turned (t':=s.toks) (fun b ob hb e=>eb b ob hb e) f0 f1 f3 f4 f5⟩
 self:=fun A i s Q E st h=>by
  refine wpAny_pyIter_slot st.typeIs F.slot_dict_keyiterator_iter (wpAny_call_entry F.slot_dict_keyiterator_iter st.typeIs F.entry_dict_keyiterator_iter ?_ (F.args_dict_keyiterator_iter_1 _))
  show wpAny _ _ (ret (.ref it)) _ _ s
  exact wpAny_pure ⟨_,rfl, "dict_keyiterator",_,st.typeIs,F.slot_dict_keyiterator_next.lookup,h⟩
theorem Zcl {kvs:List (Key×V)} {elts:List Expr} {kk:Nat} {tpos:Pos} (it:Addr) (hod:o.data=.dict es ep) :
  Turn P w K (.Tuple elts kk tpos) (Iti d o kvs) [it] it (fun i h=>∃ ok ov,IsItemIter h it d i kvs.length ep ok ov) where
 mem:=by simp
 obj:=fun i h st b hb=>by
  have e:b=it:=by simpa using hb
  subst e
  obtain ⟨ok,ov,e⟩:=st
  exact ⟨_,e,fun v z=>nomatch z⟩
 keep:=fun i h h' st k=>let ⟨ok,ov,e⟩:=st;⟨ok,ov,k it (by simp) _ e⟩
 item:=by
  intro X hP hw hK hc i pins s σ H E I hf st hg
  subst hP hw hK
  obtain ⟨hd,hi⟩:=hg
  obtain ⟨hs,hgd,hx,es',ep',vs,hdt,hsz,kv,hm⟩:=I.frzK hd
  obtain ⟨rfl,rfl⟩:=Z0j hod hdt
  obtain ⟨⟨k,v⟩,hkv⟩:∃ p,kvs[i]?=some p:=⟨kvs[i],List.getElem?_eq_getElem hi⟩
  obtain ⟨u,hu,ru⟩:=Zho kv hkv
  have hl:kvs.length=vs.length:=Paired.length kv
  obtain ⟨ok,ov,he⟩:=st
  rw[hl] at he
  have hlt:it<s.heap.objs.size:=Heap.lt_size he
  refine wpAny_pyNext_items_item he hm hu fun key h' hkey ho hT hz hk=>?_
  refine ⟨_,rfl,wpAny_letOwnedTupleGo_items (s:={ s with heap:=h' }) ho fun h'' he' sb=>?_⟩
  have hT2:h''.get? s.heap.objs.size=some { cls:=.type "tuple",data:=.seq #[key,u] }:=(sb.2 _ (Nat.ne_of_gt hlt)).trans hT
  have new:ObjOk X.prog X.w (upd H s.heap.objs.size (.tup [kV k,v])) h'' s.heap.objs.size (.tup [kV k,v]):=
   ⟨by show 2≤sizeLine;decide,[key,u],.cons (Z82 (show keyIs k key=true from hkey)) (.cons ru .nil),⟨_,hT2,rfl,_,rfl⟩⟩
  have I1:Inv X pins σ (upd H s.heap.objs.size (.tup [kV k,v])) { s with heap:=h'' }:=
   I.turnedNew (t':=s.toks) (ch:=[it]) (fun b ob hb e=>(sb.2 b (by simpa using hb)).trans (hk b ob (by simpa using hb) e)) hf (Nat.le_refl _) new
  refine ⟨.ref s.heap.objs.size,_,I1,rfl,⟨_,k,v,hkv,rfl,I.hok.fresh (Nat.le_refl _),rfl⟩,⟨key,u,?_⟩,fun b hb=>?_⟩
  ·rw[hl];exact he'
  ·have e:b=it:=by simpa using hb
   rw[e,Z8 (Nat.ne_of_lt hlt)]
   exact (hf it (by simp)).1
 done:=by
  intro X hP hw hK hc i pins s σ H E I hf st hg
  subst hP hw hK
  obtain ⟨hd,hi⟩:=hg
  obtain ⟨f0,f1,f2,f3,f4,f5⟩:=hf it (by simp)
  obtain ⟨hs,hgd,hx,es',ep',vs,hdt,hsz,kv,hm⟩:=I.frzK hd
  obtain ⟨rfl,rfl⟩:=Z0j hod hdt
  have hl:kvs.length=vs.length:=Paired.length kv
  obtain ⟨ok,ov,he⟩:=st
  rw[hl] at he
  exact wpAny_pyNext_items_end (I.ok.hd hc) he hm (List.getElem?_eq_none (by omega)) fun h' eb=>⟨rfl,I.turned (t':=s.toks) (fun b ob hb e=>eb b ob hb e) f0 f1 f3 f4 f5⟩
 self:=fun A i s Q E st h=>let ⟨_,_,e⟩:=st;PySem.W.kcp_self e h
end
def iKeys (td:TE):TI:=fun σ H R=>td σ H fun x H1=>∃ d o,x=.ref d∧((∃ kvs,H1 d=some (.frz o (.dK kvs))∧R (Itk d o kvs) H1)∨∃ kvs,H1 d=some (.frz o (.dT kvs))∧R (Itkt d o kvs) H1)
def iItems (td:TE):TI:=fun σ H R=>td σ H fun x H1=>∃ d o kvs,x=.ref d∧H1 d=some (.frz o (.dK kvs))∧R (Iti d o kvs) H1
section
variable {X:Cx} {tg e:Expr} {td:TE} {apos cpos:Pos}
theorem pi_keys (he:PE X e td):PI X tg e (iKeys td):=by
 intro pins s σ H R I h
 refine thn (he pins s σ H _ I h) fun u s1 ⟨x,H1,I1,rx,d,o,ex,q⟩=>?_
 subst ex
 obtain rfl:u=Value.ref d:=rx
 rcases q with ⟨kvs,hd,q⟩ | ⟨kvs,hd,q⟩
 ·obtain ⟨hs,hgd,hx,es,ep,vs,hdt,hsz,kv,hm⟩:=I1.frzK hd
  refine Z2a hs hgd hx hdt (Z9e (tk:=s1.toks) I1 _ (Ze4 _ hdt) ⟨_,Heap.get?_push_size _ rfl,rfl,?_⟩ q)
  rw[hsz] <;> rfl
 ·obtain ⟨hs,hgd,hx,es,ep,hdt,hsz,ent⟩:=I1.frzT hd
  refine Z2a hs hgd hx hdt (Z9e (tk:=s1.toks) I1 _ (Zcj _ hdt) ⟨_,Heap.get?_push_size _ rfl,rfl,?_⟩ q)
  rw[hsz] <;> rfl
theorem Zgs {elts:List Expr} {kk:Nat} {tpos:Pos} (he:PE X e td) (hbase:attributeBase e "items" X.env (eval e X.env)=eval e X.env:=by rfl) (hline:(apos.endLine==cpos.line)=true:=by rfl) :
  PI X (.Tuple elts kk tpos) (.Call (.Attribute e "items" apos) [] [] cpos) (iItems td):=by
 intro pins s σ H R I h
 refine wpAny_Call_method (T := "dict") (id := "dict.items") hbase rfl hline F.plainAttrs_dict F.slot_dict_items F.type_dict_items (thn (he pins s σ H _ I h) fun u s1 ⟨x,H1,I1,rx,d,o,kvs,ex,hd,q⟩=>?_)
 subst ex
 obtain rfl:u=Value.ref d:=rx
 obtain ⟨hs,hgd,hx,es,ep,vs,hdt,hsz,kv,hm⟩:=I1.frzK hd
 have hl:kvs.length=vs.length:=Paired.length kv
 refine ⟨hm.dictOf.typeIs,hm.dictOf.mapOf.noDict,?_⟩
 have I2:Inv X pins σ H1 { s1 with heap:=s1.heap.push { cls:=.type "dict_items",data:=.fields #[.ref d] } }:=I1.kept (t':=s1.toks) fun b ob q=>Heap.get?_push_of_some _ q
 have fin:wpAny (model X.prog X.w) X.A (pyIter (.ref s1.heap.objs.size)) (PIE X pins σ (.Tuple elts kk tpos) R) X.xe { s1 with heap:=s1.heap.push { cls:=.type "dict_items",data:=.fields #[.ref d] } }:=by
  refine wpAny_pyIter_items (d:=d) (knd:=Zs X.prog X.w) ⟨_,Heap.get?_push_size _ rfl,rfl,rfl⟩ (hm.push _) (Z9e (tk:=s1.toks) I2 _ (Zcl _ hdt) ⟨.none,.none,?_⟩ q)
  rw[hl]
  exact Heap.get?_push_size _ rfl
 show wpAny _ _ (callWith cpos (.builtin "dict.items") [.ref d] [] []) _ X.xe s1
 exact method_meetsIn F.slot_dict_items F.entry_dict_items rfl (PySem.evalArgs_none ⟨rfl,hm.dictOf.typeIs,F.args_dict_items_1 _,_,meets_dict_items (Zs X.prog X.w) d hs,⟨vs,hm.dictOf⟩,fin⟩)
end
theorem Zg7:bootBuiltins "zip" = some (.type "zip"):=by decide +kernel
end L2
section 
namespace Bits
open PySem PyProof.Rows
end Bits
end 
section 
namespace TL
open PySem PySem.Builtin PySem.Builtin.Str PySem.StrLaws
end TL
end 
namespace L2
open PySem PySem.Spec PyProof.Rows
section
variable {X:Cx} {pins:List (Addr×Obj)} {σ:St} {H:Hp} {s:Shared} {Q:VK}
end
section
variable {X:Cx}
end
section
variable {X:Cx} {o e:Expr} {to te:TE}
end
end L2
namespace L2
open PySem PySem.Spec PyProof.Rows
section
variable {X:Cx}
end
end L2
namespace Att
open PySem PySem.W PySem.Calls PyProof.Rows
section
variable {prog:Program} {w:World} {A:Around} {E:Value→Shared→Prop} {s:Shared} {K:Frag}
end
end Att
namespace L2
open PySem PySem.Spec PyProof.Rows
end L2
namespace L2
open PySem PySem.Spec PyProof.Rows
end L2
namespace L2
open PySem PySem.Spec PyProof.Rows
noncomputable def inClass (s:Stmt) (j:Nat):Stmt:=match s with
 | .ClassDef _ _ _ body _ _ _ _ _ _ _=>body.getD j (.Pass ⟨0,0,0,0⟩)
 | _=>.Pass ⟨0,0,0,0⟩
noncomputable def defArgs (s:Stmt):Arguments:=match s with
 | .FunctionDef _ a _ _ _ _ _ _ _ _=>a
 | _=>{ posonlyargs:=[],args:=[],vararg:=none,kwonlyargs:=[],kw_defaults:=[],kwarg:=none,defaults:=[] }
noncomputable def defBody (s:Stmt):List Stmt:=match s with
 | .FunctionDef _ _ b _ _ _ _ _ _ _=>b
 | _=>[]
noncomputable def Z7 (s:Stmt):Scope:=match s with
 | .FunctionDef _ _ _ _ _ _ sc _ _ _=>sc
 | _=>{ kind:=.function,names:=[],isGenerator:=false,isCoroutine:=false }
abbrev CX0:CXT:=fun _ _ _ _ _ _=>False
abbrev E0:XK:=fun _ _ _=>False
theorem pass0 {X:Cx}:Passes CX0 X E0:=fun _ _ _ _ _ _ _ h=>h.elim
structure Fun (K:PySem.W.Frag) (x qual:Str) (st:Stmt) (f:Addr) (fd:FuncData):Prop where
 ex:∃ (oc:Value) (od:Option Addr) (kV doc pm:Value) (an:Option Addr) (cdv ct:Value) (osl:Array (Option Value)),
  fd=PySem.W.fnOf x qual (defArgs st) (defBody st) (Z7 st) .none kV doc pm an cdv ct∧K.lookup f=some ⟨oc,od,.func fd,osl⟩∧PySem.W.codeIn K cdv qual=true
 kp:PySem.W.keepIn K (.ref f)=true
section
variable {P:Program} {w:World} {K:PySem.W.Frag} {mg:Str→Option Value} {base:Heap}
theorem Fun.ok {x qual:Str} {st:Stmt} {f:Addr} {fd:FuncData} {N ps:List Str} {k:Nat} {sp:Sp} (F:Fun K x qual st f fd) (S:Zb N ps (Z7 st)) (len:∀ vs H Q E,sp vs H Q E→vs.length=ps.length)
  (hbody:∀ (cdv:Value) (A:Around) (outer:List Env) (s:Shared) (H:Hp) (vs:List V) (Q:VK) (E:XK),Room k (A.deeper (envOfC qual (Z7 st) s.heap.objs.size f cdv))→sp vs H Q E →
   ∃ t,PSs (cxOf CX0 P w K mg base N qual (Z7 st) f cdv A outer s H E).nox (defBody st) t∧t { nx:=fun _ H'=>Q .non H',rt:=Q } (start N vs) H):FnOk P w K mg base CX0 (k+1) f fd ps sp:=by
 obtain ⟨oc,od,kV,doc,pm,an,cdv,ct,osl,rfl,lk,hcd⟩:=F.ex
 refine fn_of lk hcd S len fun A outer s H vs Q E hr hsp=>?_
 obtain ⟨t,h,q⟩:=hbody cdv A outer s H vs Q E hr hsp
 exact ⟨t,h.nox,q⟩
theorem Fun.binds {x qual:Str} {st:Stmt} {f:Addr} {fd:FuncData} {ps:List Str} (F:Fun K x qual st f fd)
  (h:∀ (kV doc pm:Value) (an:Option Addr) (cdv ct:Value) (us:List Value),us.length=ps.length→bindArgs (PySem.W.fnOf x qual (defArgs st) (defBody st) (Z7 st) .none kV doc pm an cdv ct) ⟨us,[]⟩=pure (ps.zip us)):Binds K fd ps []:=by
 obtain ⟨oc,od,kV,doc,pm,an,cdv,ct,osl,rfl,lk,hcd⟩:=F.ex
 exact .all (h kV doc pm an cdv ct)
theorem Zc8 {x qual:Str} {st:Stmt} {f:Addr} {oc:Value} {od an:Option Addr} {osl:Array (Option Value)} {kV doc pm cdv ct:Value} (l:K.lookup f=some ⟨oc,od,.func (PySem.W.fnOf x qual (defArgs st) (defBody st) (Z7 st) .none kV doc pm an cdv ct),osl⟩)
  (c:PySem.W.codeIn K cdv qual=true) (k:PySem.W.keepIn K (.ref f)=true):Fun K x qual st f (PySem.W.fnOf x qual (defArgs st) (defBody st) (Z7 st) .none kV doc pm an cdv ct):=⟨⟨oc,od,kV,doc,pm,an,cdv,ct,osl,rfl,l,c⟩,k⟩
end
theorem hu_of {A:Around} {k:Nat} (hr:Room k A):A.units+1<cLine:=Nat.lt_of_le_of_lt (Nat.add_le_add_left (by decide:1≤64) _) hr.units
section
variable {X:Cx}
theorem pv (i:Nat) {x:Str} {pos:Pos} (hN:X.N[i]?=some x:=by rfl) (hv:Vis X.env.scope x:=by first | exact Or.inl rfl | exact Or.inr (Or.inl rfl) | exact Or.inr (Or.inr rfl)) (hd:(x==("__debug__" : Str))=false:=by decide)
  (hcd:(x==("__classdict__" : Str))=false:=by decide):PE X (.Name x pos) (tVar i):=pe_var hN hv hd hcd
end
theorem iteF {A B:Prop} (h:B):if false=true then A else B:=by
 rw[if_neg Bool.false_ne_true]
 exact h
theorem iteT {A B:Prop} (h:A):if true=true then A else B:=by
 rw[if_pos rfl]
 exact h
theorem ite2 {c A B:Prop} [Decidable c] (h1:c→A) (h2:¬ c→B):if c then A else B:=by
 by_cases h:c
 ·rw[if_pos h]
  exact h1 h
 ·rw[if_neg h]
  exact h2 h
def Same (H H':Hp):Prop:=∀ b o,H b=some o→H' b=some o
theorem Same.refl (H:Hp):Same H H:=fun _ _ h=>h
theorem Same.trans {H H1 H2:Hp} (a:Same H H1) (b:Same H1 H2):Same H H2:=fun c o h=>b c o (a c o h)
theorem Same.free {H H':Hp} (e:Same H H') {l:Addr} (h:H' l=Option.none):H l=Option.none:=by
 cases q:H l with
 | none=>rfl
 | some o=>
  rw[e l o q] at h
  cases h
theorem Same.seq {K:PySem.W.Frag} {H H':Hp} {a:Addr} {xs:List V} (e:Same H H') (h:SqL K H a xs):SqL K H' a xs:=by
 rcases h with (h | ⟨o,h⟩) | h
 ·exact .inl (.inl (e _ _ h))
 ·exact .inl (.inr ⟨o,e _ _ h⟩)
 ·exact .inr h
section
variable {κ:Type} [DecidableEq κ]
theorem valV_in {kvs:List (κ×V)} {k:κ} {v:V} (h:valV kvs k=some v):k∈kvs.map (·.1):=by
 have q:(kvs.any fun kv=>decide (kv.1=k))=true:=by
  rw[W3,h]
  all_goals rfl
 obtain ⟨p,hp,e⟩:=List.any_eq_true.mp q
 exact List.mem_map.mpr ⟨p,hp,of_decide_eq_true e⟩
end
end L2
end
section
section
set_option maxHeartbeats 2000000
namespace L2
open PySem PySem.Spec PyProof.Rows
open PySem.W (WData Codec OpenSpec Well WellAll ReadsW ReadsAllW)
mutual
inductive Dw (K:PySem.W.Frag) (H:Hp):V→WData→Prop
 | non:Dw K H .non .none
 | bl (b:Bool):Dw K H (.bl b) (.bool b)
 | int (i:Int):Dw K H (.int i) (.int i)
 | str (x:Str):Dw K H (.str x) (.str x)
 | byt (b:Array UInt8):Dw K H (.byt b) (.bytes b.toList)
 | lst {a:Addr} {xs:List V} {ds:List WData}:SqL K H a xs→DwAll K H xs ds→Dw K H (.ref a) (.list ds)
 | tup {a:Addr} {xs:List V} {ds:List WData}:SqT K H a xs→DwAll K H xs ds→Dw K H (.ref a) (.tuple ds)
inductive DwAll (K:PySem.W.Frag) (H:Hp):List V→List WData→Prop
 | nil:DwAll K H [] []
 | cons {v:V} {vs:List V} {d:WData} {ds:List WData}:Dw K H v d→DwAll K H vs ds→DwAll K H (v::vs) (d::ds)
end
theorem dw_ints {K:PySem.W.Frag} {H:Hp}:∀ ns:List Int,DwAll K H (ns.map V.int) (ns.map WData.int)
 | []=>.nil
 | n::r=>.cons (.int n) (dw_ints r)
theorem ints_dw {K:PySem.W.Frag} {H:Hp}:∀ (ns:List Int) (xs:List V),DwAll K H xs (ns.map WData.int)→xs=ns.map V.int
 | [],xs,h=>by
  cases h
  rfl
 | n::r,xs,h=>by
  cases h with
  | cons h1 h2=>
   cases h1
   rw[ints_dw r _ h2] <;> rfl
section
variable {P:Program} {w:World} {K:PySem.W.Frag} {H:Hp} {h:Heap} {R:PySem.W.WRecords} {cl:Str→Option Addr}
theorem sqL_at {a:Addr} {xs:List V} (hok:HOk P w H h) (KX:K.In h) (q:SqL K H a xs):∃ (its:List Value) (o:Obj) (n:Nat),Vals xs its∧h.get? a=some o∧o.cls=.type "list" ∧ o.data=.seq its.toArray n:=by
 rcases q with q | ⟨o,its,n,e,hc,_,hd,_,hv⟩
 ·obtain ⟨_,its,n,hv,e⟩:=(show ObjOk P w H h a (.lst xs) from q.ok hok)
  exact ⟨its,_,n,hv,e,rfl,rfl⟩
 ·exact ⟨its.toList,o,n,hv,KX _ _ e,hc,by simp[hd]⟩
theorem sqT_at {a:Addr} {xs:List V} (hok:HOk P w H h) (KX:K.In h) (q:SqT K H a xs):∃ (its:List Value) (o:Obj) (n:Nat),Vals xs its∧h.get? a=some o∧o.cls=.type "tuple" ∧ o.data=.seq its.toArray n:=by
 rcases q with q | ⟨o,its,n,e,hc,hd,_,hv⟩
 ·obtain ⟨_,its,hv,o,e,hc,n,hd⟩:=(show ObjOk P w H h a (.tup xs) from q.ok hok)
  exact ⟨its,o,n,hv,e,hc,hd⟩
 ·exact ⟨its.toList,o,n,hv,KX _ _ e,hc,by simp[hd]⟩
mutual
theorem Dw.reads (hok:HOk P w H h) (KX:K.In h):∀ (d:WData) (v:V) (u:Value),Dw K H v d→RelV v u→∃ as,ReadsW R cl h u d as
 | .none,_,_,x,r=>by
  cases x
  cases r
  exact ⟨_,ReadsW.none⟩
 | .bool b,_,_,x,r=>by
  cases x
  cases r
  exact ⟨_,ReadsW.bool b⟩
 | .int i,_,_,x,r=>by
  cases x
  obtain ⟨t,rfl⟩:=r
  exact ⟨_,ReadsW.int i t⟩
 | .str s,_,_,x,r=>by
  cases x
  obtain ⟨t,rfl⟩:=r
  exact ⟨_,ReadsW.str s t⟩
 | .bytes b,_,_,x,r=>by
  cases x
  obtain ⟨t,rfl⟩:=r
  exact ⟨_,ReadsW.bytes _ t⟩
 | .list ds,_,_,x,r=>by
  cases x with
  | lst hs ha=>
   cases r
   obtain ⟨its,o,n,rv,ho,hc,hd⟩:=sqL_at hok KX hs
   obtain ⟨as,hr⟩:=Dw.readsAll hok KX ds _ its ha rv
   exact ⟨_,ReadsW.list ho hc hd hr⟩
 | .tuple ds,_,_,x,r=>by
  cases x with
  | tup hs ha=>
   cases r
   obtain ⟨its,o,n,rv,ho,hc,hd⟩:=sqT_at hok KX hs
   obtain ⟨as,hr⟩:=Dw.readsAll hok KX ds _ its ha rv
   exact ⟨_,ReadsW.tuple ho hc hd hr⟩
 | .float _,_,_,x,_=>by cases x
 | .dict _,_,_,x,_=>by cases x
 | .bytearray _,_,_,x,_=>by cases x
 | .set _,_,_,x,_=>by cases x
 | .frozenset _,_,_,x,_=>by cases x
 | .obj _ _,_,_,x,_=>by cases x
theorem Dw.readsAll (hok:HOk P w H h) (KX:K.In h):∀ (ds:List WData) (vs:List V) (us:List Value),DwAll K H vs ds→Vals vs us→∃ as,ReadsAllW R cl h us ds as
 | [],_,_,x,r=>by
  cases x
  cases r
  exact ⟨_,ReadsAllW.nil⟩
 | d::ds,_,_,x,r=>by
  cases x with
  | cons h1 h2=>
   cases r with
   | cons r1 r2=>
    obtain ⟨as,q1⟩:=Dw.reads hok KX d _ _ h1 r1
    obtain ⟨bs,q2⟩:=Dw.readsAll hok KX ds _ _ h2 r2
    exact ⟨_,ReadsAllW.cons q1 q2⟩
end
end
mutual
noncomputable def plW:WData→Bool
 | .none=>true
 | .bool _=>true
 | .int _=>true
 | .str _=>true
 | .bytes _=>true
 | .list xs=>plWs xs
 | .tuple xs=>plWs xs
 | _=>false
noncomputable def plWs:List WData→Bool
 | []=>true
 | x::r=>plW x&&plWs r
end
theorem Zbp {α:Type} {f:α→WData} (h:∀ a,plW (f a)=true):∀ l:List α,plWs (l.map f)=true
 | []=>rfl
 | x::r=>by
  show (plW (f x)&&plWs (r.map f))=true
  rw[h x,Zbp h r] <;> rfl
theorem Z3d:∀ (c:Codec) (a:c.denote),plW (c.enc a)=true
 | .unit,_=>rfl
 | .bool,_=>rfl
 | .int _ _,_=>rfl
 | .nat _ _,_=>rfl
 | .u8,_=>rfl
 | .bytes _ _,_=>rfl
 | .text _ _ _ _,_=>rfl
 | .list _ _ c,a=>Zbp (fun x=>Z3d c x) a
 | .pair c d,a=>by
  show (plW (c.enc a.1)&&(plW (d.enc a.2)&&true))=true
  rw[Z3d c a.1,Z3d d a.2] <;> rfl
 | .triple c d e,a=>by
  show (plW (c.enc a.1)&&(plW (d.enc a.2.1)&&(plW (e.enc a.2.2)&&true)))=true
  rw[Z3d c a.1,Z3d d a.2.1,Z3d e a.2.2] <;> rfl
 | .option c,none=>rfl
 | .option c,some x=>Z3d c x
theorem Z9d:∀ (cs:List Codec) (a:Codec.denoteAll cs),plWs (Codec.encAll cs a)=true
 | [],_=>rfl
 | c::cs,a=>by
  show (plW (c.enc a.1)&&plWs (Codec.encAll cs a.2))=true
  rw[Z3d c a.1,Z9d cs a.2] <;> rfl
theorem Z2k:∀ {xs:List WData} {d:WData},d∈xs→d.weight≤WData.weightAll xs
 | [],d,h=>absurd h (by simp)
 | x::r,d,h=>by
  show d.weight≤x.weight+1+WData.weightAll r
  rcases List.mem_cons.mp h with e | m
  ·rw[e]
   omega
  ·have z:=Z2k m
   omega
noncomputable def toV:Value→V
 | .none=>.non
 | .bool b=>.bl b
 | .int i _=>.int i
 | .str x _=>.str x
 | .bytes b _=>.byt b
 | .ref a=>.ref a
 | _=>.non
def OkU (A:List Addr):Value→Prop
 | .none=>True
 | .bool _=>True
 | .int _ _=>True
 | .str _ _=>True
 | .bytes _ _=>True
 | .ref a=>a∈A
 | _=>False
theorem OkU.mono {A B:List Addr} (h:∀ a∈A,a∈B):∀ {u:Value},OkU A u→OkU B u:=fun {u} x=>by
 cases u with
 | ref a=>exact h a x
 | none=>trivial
 | bool b=>trivial
 | int i t=>trivial
 | str s t=>trivial
 | bytes b t=>trivial
 | _=>exact False.elim x
theorem Zgk {A:List Addr} {u:Value} (x:OkU A u):RelV (toV u) u:=by
 cases u with
 | ref a=>rfl
 | none=>rfl
 | bool b=>rfl
 | int i t=>exact ⟨t,rfl⟩
 | str s t=>exact ⟨t,rfl⟩
 | bytes b t=>exact ⟨t,rfl⟩
 | _=>exact False.elim x
theorem Z0m {A:List Addr}:∀ {vs:List Value},(∀ u∈vs,OkU A u)→Vals (vs.map toV) vs
 | [],_=>.nil
 | u::r,h=>.cons (Zgk (h u (List.mem_cons_self ..))) (Z0m fun x hx=>h x (List.mem_cons_of_mem _ hx))
def ArgOb (h:Heap) (A:List Addr) (a:Addr):Prop:=∃ vs:List Value,vs.length≤sizeLine∧(∀ u∈vs,OkU A u) ∧
 (h.get? a=some { cls:=.type "list",data:=.seq vs.toArray }∨h.get? a=some { cls:=.type "tuple",data:=.seq vs.toArray })
theorem ArgOb.mono {h:Heap} {A B:List Addr} {a:Addr} (k:∀ a∈A,a∈B) (x:ArgOb h A a):ArgOb h B a:=by
 obtain ⟨vs,h1,h2,h3⟩:=x
 exact ⟨vs,h1,fun u hu=>(h2 u hu).mono k,h3⟩
theorem Uz {P:Params} {h:Heap}:∀ {vs:List Value} {ds:List WData},WellAll P h vs ds→vs.length=ds.length
 | _,_,.nil=>rfl
 | _,_,.cons _ b=>by
  show _+1=_+1
  rw[Uz b]
theorem Z8u {P:Params} {h:Heap} {v:Value} {ds:List WData} (x:Well P h v (.list ds)):∃ (a:Addr) (vs:List Value),v=.ref a∧h.get? a=some { cls:=.type "list",data:=.seq vs.toArray }∧WellAll P h vs ds:=by
 cases x with
 | list ho hall=>exact ⟨_,_,rfl,ho,hall⟩
theorem Z6e {P:Params} {h:Heap} {v:Value} {ds:List WData} (x:Well P h v (.tuple ds)):∃ (a:Addr) (vs:List Value),v=.ref a∧h.get? a=some { cls:=.type "tuple",data:=.seq vs.toArray }∧WellAll P h vs ds:=by
 cases x with
 | tuple ho hall=>exact ⟨_,_,rfl,ho,hall⟩
theorem Z8v {P:Params} {h:Heap} {us:List Value} {d:WData} {ds:List WData} (x:WellAll P h us (d::ds)):∃ (v:Value) (vs:List Value),us=v::vs∧Well P h v d∧WellAll P h vs ds:=by
 cases x with
 | cons a b=>exact ⟨_,_,rfl,a,b⟩
theorem Zfc {n:Nat} (h:n≤1048576):n≤sizeLine:=Nat.le_trans h (by decide)
section
variable {P:Params} {h:Heap}
mutual
theorem Zhc:∀ (d:WData) (v:Value),Well P h v d→plW d=true→d.weight≤1048576→∃ A:List Addr,OkU A v∧∀ a∈A,ArgOb h A a
 | .none,_,x,_,_=>by
  cases x
  exact ⟨[],trivial,fun a m=>absurd m (by simp)⟩
 | .bool b,_,x,_,_=>by
  cases x
  exact ⟨[],trivial,fun a m=>absurd m (by simp)⟩
 | .int i,_,x,_,_=>by
  cases x
  exact ⟨[],trivial,fun a m=>absurd m (by simp)⟩
 | .str s,_,x,_,_=>by
  cases x
  exact ⟨[],trivial,fun a m=>absurd m (by simp)⟩
 | .bytes b,_,x,_,_=>by
  cases x
  exact ⟨[],trivial,fun a m=>absurd m (by simp)⟩
 | .list ds,_,x,p,z=>by
  obtain ⟨a,vs,rfl,ho,hall⟩:=Z8u x
  have z2:WData.weightAll ds≤1048576:=z
  obtain ⟨A,h1,h2⟩:=Z3z ds _ hall p fun d hd=>Nat.le_trans (Z2k hd) z2
  have k:∀ b∈A,b∈a::A:=fun b hb=>List.mem_cons_of_mem _ hb
  refine ⟨a::A,List.mem_cons_self ..,fun b hb=>?_⟩
  rcases List.mem_cons.mp hb with e | m
  ·rw[e]
   exact ⟨vs,Zfc (by rw[Uz hall];exact Nat.le_trans (PySem.W.length_le_weightAllW ds) z2),fun u hu=>(h1 u hu).mono k,.inl ho⟩
  ·exact (h2 b m).mono k
 | .tuple ds,_,x,p,z=>by
  obtain ⟨a,vs,rfl,ho,hall⟩:=Z6e x
  have z2:WData.weightAll ds≤1048576:=z
  obtain ⟨A,h1,h2⟩:=Z3z ds _ hall p fun d hd=>Nat.le_trans (Z2k hd) z2
  have k:∀ b∈A,b∈a::A:=fun b hb=>List.mem_cons_of_mem _ hb
  refine ⟨a::A,List.mem_cons_self ..,fun b hb=>?_⟩
  rcases List.mem_cons.mp hb with e | m
  ·rw[e]
   exact ⟨vs,Zfc (by rw[Uz hall];exact Nat.le_trans (PySem.W.length_le_weightAllW ds) z2),fun u hu=>(h1 u hu).mono k,.inr ho⟩
  ·exact (h2 b m).mono k
 | .float _,_,_,p,_=>Bool.noConfusion (show false=true from p)
 | .dict _,_,_,p,_=>Bool.noConfusion (show false=true from p)
 | .bytearray _,_,_,p,_=>Bool.noConfusion (show false=true from p)
 | .set _,_,_,p,_=>Bool.noConfusion (show false=true from p)
 | .frozenset _,_,_,p,_=>Bool.noConfusion (show false=true from p)
 | .obj _ _,_,_,p,_=>Bool.noConfusion (show false=true from p)
theorem Z3z:∀ (ds:List WData) (vs:List Value),WellAll P h vs ds→plWs ds=true→(∀ d∈ds,d.weight≤1048576)→∃ A:List Addr,(∀ u∈vs,OkU A u)∧∀ a∈A,ArgOb h A a
 | [],_,x,_,_=>by
  cases x
  exact ⟨[],fun u m=>absurd m (by simp),fun a m=>absurd m (by simp)⟩
 | d::ds,_,x,p,z=>by
  obtain ⟨v,vs,rfl,x1,x2⟩:=Z8v x
  have q:plW d=true∧plWs ds=true:=Bool.and_eq_true_iff.mp p
  obtain ⟨A,a1,a2⟩:=Zhc d v x1 q.1 (z d (List.mem_cons_self ..))
  obtain ⟨B,b1,b2⟩:=Z3z ds vs x2 q.2 fun e he=>z e (List.mem_cons_of_mem _ he)
  have kA:∀ b∈A,b∈A++B:=fun b hb=>List.mem_append.mpr (.inl hb)
  have kB:∀ b∈B,b∈A++B:=fun b hb=>List.mem_append.mpr (.inr hb)
  refine ⟨A++B,fun u hu=>?_,fun b hb=>?_⟩
  ·rcases List.mem_cons.mp hu with e | m
   ·rw[e]
    exact a1.mono kA
   ·exact (b1 u m).mono kB
  ·rcases List.mem_append.mp hb with m | m
   ·exact (a2 b m).mono kA
   ·exact (b2 b m).mono kB
end
end
noncomputable def hoOf (o:Obj):Option HO:=match o.data with
 | .seq vs _=>if (o.cls==Value.type "list")=true then some (.frz o (.lst (vs.toList.map toV))) else some (.frz o (.tup (vs.toList.map toV)))
 | _=>none
def argH (K:PySem.W.Frag) (h:Heap) (A:List Addr):Hp:=fun b=>if b∈A then (if (K.lookup b).isNone=true then (h.get? b).bind hoOf else none) else none
def OnlyF (H:Hp):Prop:=∀ b,H b=none∨∃ o u,H b=some (.frz o u)
theorem Zc7 (vs:List Value):hoOf { cls:=.type "list",data:=.seq vs.toArray }=some (.frz { cls:=.type "list",data:=.seq vs.toArray } (.lst (vs.map toV))):=by
 show (if (Value.type "list" == Value.type "list")=true then some (HO.frz { cls:=.type "list",data:=.seq vs.toArray } (.lst (vs.toArray.toList.map toV))) else some (HO.frz { cls:=.type "list",data:=.seq vs.toArray } (.tup (vs.toArray.toList.map toV))))=_
 rw[if_pos (beq_self_eq_true _)]
theorem Zc6 (vs:List Value):hoOf { cls:=.type "tuple",data:=.seq vs.toArray }=some (.frz { cls:=.type "tuple",data:=.seq vs.toArray } (.tup (vs.map toV))):=by
 show (if (Value.type "tuple" == Value.type "list")=true then some (HO.frz { cls:=.type "tuple",data:=.seq vs.toArray } (.lst (vs.toArray.toList.map toV))) else some (HO.frz { cls:=.type "tuple",data:=.seq vs.toArray } (.tup (vs.toArray.toList.map toV))))=_
 rw[if_neg (by decide)]
section
variable {P:Program} {w:World} {K:PySem.W.Frag} {h:Heap} {A:List Addr}
theorem Z8t {b:Addr} {o:Obj} (hb:b∈A) (hk:K.lookup b=none) (e:h.get? b=some o):argH K h A b=hoOf o:=by
 unfold argH
 rw[if_pos hb,hk,if_pos (show (none:Option Obj).isNone=true from rfl),e] <;> rfl
theorem of_argH {b:Addr} {u:HO} (q:argH K h A b=some u):b∈A∧K.lookup b=none:=by
 unfold argH at q
 by_cases hb:b∈A
 ·rw[if_pos hb] at q
  cases hk:K.lookup b with
  | none=>exact ⟨hb,rfl⟩
  | some o=>
   rw[hk,if_neg (by simp)] at q
   cases q
 ·rw[if_neg hb] at q
  cases q
theorem Z8s (ar:∀ a∈A,ArgOb h A a) {b:Addr} {u:HO} (q:argH K h A b=some u):K.lookup b=none∧∃ vs:List Value,vs.length≤sizeLine∧(∀ u∈vs,OkU A u) ∧
  ((h.get? b=some { cls:=.type "list",data:=.seq vs.toArray }∧u=.frz { cls:=.type "list",data:=.seq vs.toArray } (.lst (vs.map toV))) ∨
    (h.get? b=some { cls:=.type "tuple",data:=.seq vs.toArray }∧u=.frz { cls:=.type "tuple",data:=.seq vs.toArray } (.tup (vs.map toV)))):=by
 obtain ⟨hb,hk⟩:=of_argH q
 obtain ⟨vs,h1,h2,h3⟩:=ar b hb
 refine ⟨hk,vs,h1,h2,?_⟩
 rcases h3 with e | e
 ·rw[Z8t hb hk e,Zc7] at q
  exact .inl ⟨e,(Option.some.inj q).symm⟩
 ·rw[Z8t hb hk e,Zc6] at q
  exact .inr ⟨e,(Option.some.inj q).symm⟩
theorem Zga (ar:∀ a∈A,ArgOb h A a):OnlyF (argH K h A):=fun b=>by
 cases q:argH K h A b with
 | none=>exact .inl rfl
 | some u=>
  obtain ⟨_,vs,_,_,⟨_,e⟩ | ⟨_,e⟩⟩:=Z8s ar q
  ·exact .inr ⟨_,_,by rw[e]⟩
  ·exact .inr ⟨_,_,by rw[e]⟩
theorem argH_ok (ar:∀ a∈A,ArgOb h A a):HOk P w (argH K h A) h:=fun b u q=>by
 obtain ⟨_,vs,h1,h2,⟨e,rfl⟩ | ⟨e,rfl⟩⟩:=Z8s ar q
 ·exact ⟨e,by rw[List.length_map];exact h1,vs,_,Z0m h2,e⟩
 ·exact ⟨e,by rw[List.length_map];exact h1,vs,Z0m h2,_,e,rfl,_,rfl⟩
theorem Z7w {c c':Value} {vs us:List Value} (e:(some { cls:=c,data:=.seq vs.toArray }:Option Obj)=some { cls:=c',data:=.seq us.toArray }):c=c'∧vs=us:=by
 have e1:=Option.some.inj e
 have e2:c=c':=congrArg Obj.cls e1
 have e3:Data.seq vs.toArray=Data.seq us.toArray:=congrArg Obj.data e1
 injection e3 with e4
 refine ⟨e2,?_⟩
 have e5:=congrArg Array.toList e4
 simpa using e5
theorem argL (KX:K.In h) (ar:∀ a∈A,ArgOb h A a) {a:Addr} {vs:List Value} (ha:a∈A) (e:h.get? a=some { cls:=.type "list",data:=.seq vs.toArray }):(∀ u∈vs,OkU A u)∧SqL K (argH K h A) a (vs.map toV):=by
 obtain ⟨us,h1,h2,h3⟩:=ar a ha
 have hu:us=vs:=by
  rcases h3 with q | q
  ·rw[e] at q
   exact (Z7w q).2.symm
  ·rw[e] at q
   exact absurd (Value.type.inj (Z7w q).1) (by decide)
 subst hu
 refine ⟨h2,?_⟩
 cases hk:K.lookup a with
 | none=>exact .inl (.inr ⟨_,by rw[Z8t ha hk e,Zc7]⟩)
 | some o=>
  have e2:=KX a o hk
  rw[e] at e2
  obtain rfl:=Option.some.inj e2
  exact .inr ⟨_,us.toArray,_,hk,rfl,rfl,rfl,by rw[List.size_toArray];exact h1,by simpa using Z0m h2⟩
theorem argT (KX:K.In h) (ar:∀ a∈A,ArgOb h A a) {a:Addr} {vs:List Value} (ha:a∈A) (e:h.get? a=some { cls:=.type "tuple",data:=.seq vs.toArray }):(∀ u∈vs,OkU A u)∧SqT K (argH K h A) a (vs.map toV):=by
 obtain ⟨us,h1,h2,h3⟩:=ar a ha
 have hu:us=vs:=by
  rcases h3 with q | q
  ·rw[e] at q
   exact absurd (Value.type.inj (Z7w q).1) (by decide)
  ·rw[e] at q
   exact (Z7w q).2.symm
 subst hu
 refine ⟨h2,?_⟩
 cases hk:K.lookup a with
 | none=>exact .inl (.inr ⟨_,by rw[Z8t ha hk e,Zc6]⟩)
 | some o=>
  have e2:=KX a o hk
  rw[e] at e2
  obtain rfl:=Option.some.inj e2
  exact .inr ⟨_,us.toArray,_,hk,rfl,rfl,by rw[List.size_toArray];exact h1,by simpa using Z0m h2⟩
mutual
theorem dw_one {Pm:Params} (KX:K.In h) (ar:∀ a∈A,ArgOb h A a):∀ (d:WData) (v:Value),Well Pm h v d→plW d=true→OkU A v→Dw K (argH K h A) (toV v) d
 | .none,_,x,_,_=>by
  cases x
  exact .non
 | .bool b,_,x,_,_=>by
  cases x
  exact .bl b
 | .int i,_,x,_,_=>by
  cases x
  exact .int i
 | .str s,_,x,_,_=>by
  cases x
  exact .str s
 | .bytes b,_,x,_,_=>by
  cases x
  have z:=Dw.byt (K:=K) (H:=argH K h A) b.toArray
  exact z
 | .list ds,_,x,p,hu=>by
  obtain ⟨a,vs,rfl,ho,hall⟩:=Z8u x
  obtain ⟨h2,hs⟩:=argL KX ar hu ho
  exact .lst hs (Zca KX ar ds _ hall p h2)
 | .tuple ds,_,x,p,hu=>by
  obtain ⟨a,vs,rfl,ho,hall⟩:=Z6e x
  obtain ⟨h2,hs⟩:=argT KX ar hu ho
  exact .tup hs (Zca KX ar ds _ hall p h2)
 | .float _,_,_,p,_=>Bool.noConfusion (show false=true from p)
 | .dict _,_,_,p,_=>Bool.noConfusion (show false=true from p)
 | .bytearray _,_,_,p,_=>Bool.noConfusion (show false=true from p)
 | .set _,_,_,p,_=>Bool.noConfusion (show false=true from p)
 | .frozenset _,_,_,p,_=>Bool.noConfusion (show false=true from p)
 | .obj _ _,_,_,p,_=>Bool.noConfusion (show false=true from p)
theorem Zca {Pm:Params} (KX:K.In h) (ar:∀ a∈A,ArgOb h A a):∀ (ds:List WData) (vs:List Value),WellAll Pm h vs ds→plWs ds=true→(∀ u∈vs,OkU A u)→DwAll K (argH K h A) (vs.map toV) ds
 | [],_,x,_,_=>by
  cases x
  exact .nil
 | d::ds,_,x,p,hu=>by
  obtain ⟨v,vs,rfl,x1,x2⟩:=Z8v x
  have q:plW d=true∧plWs ds=true:=Bool.and_eq_true_iff.mp p
  exact .cons (dw_one KX ar d v x1 q.1 (hu _ (List.mem_cons_self ..))) (Zca KX ar ds vs x2 q.2 fun u m=>hu u (List.mem_cons_of_mem _ m))
end
end
theorem Zeg {P:Program} {w:World} {K:PySem.W.Frag} {mg mb:Str→Option Value} {CX:CXT} {k:Nat} {fa:Addr} {fd:FuncData} {ps:List Str} {sp:Sp} {s₁:Shared} {vals:List Value} {ds:List WData} {R:PySem.W.WRecords} {cl:Str→Option Addr} {d0:WData}
  (KX:K.In s₁.heap) (hns:s₁.heap.Ns mainGlobals mg) (hb:s₁.heap.Ns builtinsNs mb) (hbb:∀ x:Str,x ≠ "__name__" → mb x=bootBuiltins x) (hlim:s₁.heap.NoLimit) (hg:s₁.gens=#[])
  (hwl:WellAll w.params s₁.heap vals ds) (hpl:plWs ds=true) (hwt:∀ d∈ds,d.weight≤1048576) (hr:Room k callerA)
  (F:∀ base:Heap,K.In base→base.Ns mainGlobals mg→FnOk P w K mg base CX k fa fd ps sp) (hbind:∀ (s:Shared) (us:List Value),us.length=ps.length→BindsTo s fd ⟨us,[]⟩ (ps.zip us)) (hlen:ds.length=ps.length)
  (hsp:∀ (H:Hp) (xs:List V),OnlyF H→DwAll K H xs ds→sp xs H (fun v H'=>Dw K H' v d0) fun _ _ _=>False)
  (hCX:∀ H e s',CX [] H s₁ (fun _ _ _=>False) e s'→False) :
  codeAny (model P w) callerA (.call (.ref fa) ⟨vals,[]⟩) (fun r s'=>∃ u as,r=.ok (.ret u)∧ReadsW R cl s'.heap u d0 as∧OldK s₁.heap s'.heap∧s'.os=s₁.os∧AllBare s'.gens) s₁:=by
 obtain ⟨A,ho,ar⟩:=Z3z ds vals hwl hpl hwt
 have hO:OnlyF (argH K s₁.heap A):=Zga ar
 have hok:HOk P w (argH K s₁.heap A) s₁.heap:=argH_ok ar
 have hS:=Zca KX ar ds vals hwl hpl ho
 have hV:=Z0m ho
 have hK:∀ b u,argH K s₁.heap A b=some u→K.lookup b=none:=fun b u q=>(Z8s ar q).1
 have noA:∀ {b:Addr} {o:Obj} {es:Array DictEntry} {ep:Nat},s₁.heap.get? b=some o→o.data=.dict es ep→argH K s₁.heap A b=none:=fun {b o es ep} e d=>by
  cases q:argH K s₁.heap A b with
  | none=>rfl
  | some u=>
   obtain ⟨_,vs,_,_,⟨e2,_⟩ | ⟨e2,_⟩⟩:=Z8s ar q
   ·rw[e2] at e
    cases e
    have d':Data.seq vs.toArray _=Data.dict es ep:=d
    cases d'
   ·rw[e2] at e
    cases e
    have d':Data.seq vs.toArray _=Data.dict es ep:=d
    cases d'
 generalize argH K s₁.heap A=H at hO hok hS hK noA
 have base_of:∀ {b:Addr} {o:Obj},s₁.heap.get? b=some o→H b=none→(hidT s₁.heap H).get? b=some o:=fun e n=>Zh3 e n
 have nsK:∀ {b:Addr} {m:Str→Option Value},s₁.heap.Ns b m→(hidT s₁.heap H).Ns b m:=fun {b m} ⟨o,es,ep,e,d,r⟩=>⟨o,es,ep,base_of e (noA e d),d,r⟩
 have nK:∀ b o,K.lookup b=some o→H b=none:=fun b o e=>by
  cases q:H b with
  | none=>rfl
  | some u=>
   rw[hK b u q] at e
   cases e
 have hKb:K.In (hidT s₁.heap H):=fun b o e=>base_of (KX b o e) (nK b o e)
 have hM:Mod K mg (hidT s₁.heap H):=⟨hKb,nsK hns,⟨mb,nsK hb,hbb⟩,let ⟨mc,h1,h2⟩:=hlim;⟨mc,nsK h1,h2⟩⟩
 have e0:Env0 P w K mg (hidT s₁.heap H) callerA [] s₁ H:=⟨rfl,hM,fun b o e=>of_hidT e,Nat.le_of_eq (Zfp _ _),trivial,fun b hb=>absurd (show b∈([]:List Addr) from hb) (by simp),hok,.of_eq hg⟩
 have hl:vals.length=ps.length:=by rw[Uz hwl];exact hlen
 refine codeAny_mono ((F _ hKb (nsK hns)).run callerA [] s₁ H ⟨vals,[]⟩ vals (vals.map toV) _ _ hr e0 (hbind s₁ vals hl) hV (hsp H _ hO hS)) fun r s' x=>?_
 cases r with
 | error e=>exact (hCX H e s' x).elim
 | ok fl=>
  cases fl with
  | next=>exact False.elim x
  | brk=>exact False.elim x
  | cont=>exact False.elim x
  | ret u=>
   obtain ⟨v,H',os,bare,un,hok',r',q⟩:=x
   have kept:∀ b o,s₁.heap.get? b=some o→s'.heap.get? b=some o:=fun b o e=>by
    cases q2:H b with
    | none=>exact un.keep b o e q2 (by intro z;exact absurd (show b∈([]:List Addr) from z) (by simp)) (by simp)
    | some u2=>
     rcases hO b with z | ⟨ob,u3,z⟩
     ·rw[q2] at z
      cases z
     ·have z2:=un.frzs b ob _ z
      obtain ⟨e1,_⟩:=hok b _ z
      obtain ⟨e2,_⟩:=hok' b _ z2
      rw[e] at e1
      cases e1
      exact e2
   have KX':K.In s'.heap:=fun b o e=>kept b o (KX b o e)
   obtain ⟨as,hrd⟩:=Dw.reads (R:=R) (cl:=cl) hok' KX' d0 v u q r'
   exact ⟨u,as,rfl,hrd,OldK.of_keep kept,os,bare⟩
theorem Z6c {ds:List WData} (h:WData.layableAll ds=true):∀ d∈ds,d.weight≤1048576:=fun d hd=>
 (PySem.W.layableW_iff.mp (List.all_eq_true.mp h d hd)).2.2
theorem Z78:∀ (cs:List Codec) (a:Codec.denoteAll cs),(Codec.encAll cs a).length=cs.length
 | [],_=>rfl
 | c::cs,a=>by
  show (Codec.encAll cs a.2).length+1=cs.length+1
  rw[Z78 cs a.2]
theorem Ze1 {r:OpenSpec} {k:Nat} {q:Program} {loose:List Str} {XP:(Str→Option Value)→Heap→Prop} {YP:World→Heap→Prop} {d:DefRec} {K:Params→PySem.W.Frag} {CX:World→CXT} {ps:List Str} {sp:World→Sp}
  (hwell:r.wellSaid=true) (hdf:d.params.defaults=[]) (hlen:r.args.length=ps.length) (hr:Room k callerA)
  (hY:∀ (w:World) (h:Heap),YP w h→(K w.params).In h)
  (F:∀ (w:World) (mg:Str→Option Value) (fa:Addr) (h:Heap),YP w h→(K w.params).In h→h.Ns mainGlobals mg→mg d.name=some (.ref fa) →
   ∃ fd:FuncData,(∀ (s:Shared) (us:List Value),us.length=ps.length→BindsTo s fd ⟨us,[]⟩ (ps.zip us)) ∧
    ∀ base:Heap,(K w.params).In base→base.Ns mainGlobals mg→FnOk r.prog w (K w.params) mg base (CX w) k fa fd ps (sp w))
  (hsp:∀ (w:World) (H:Hp) (xs:List V) (a:Codec.denoteAll r.args),OnlyF H→Codec.withinAll r.args a=true→Codec.app r.args r.asked a=true→DwAll (K w.params) H xs (Codec.encAll r.args a) →
   sp w xs H (fun v H'=>Dw (K w.params) H' v (r.ret.enc (Codec.app r.args r.f a))) fun _ _ _=>False)
  (hCX:∀ (w:World) (H:Hp) (s:Shared) (e:Value) (s':Shared),CX w [] H s (fun _ _ _=>False) e s'→False) :
  PySem.W.WalkOS q loose XP YP r d [] (fun f vs=>PySem.call f vs):=by
 intro w s_0 s₁ mg mb G Y fa o pm cd doc dV kV ho hd hcd hD hmg hg args vals as hpre hlay hrd hwl hlo
 obtain ⟨a,e1,e2⟩:=PySem.W.os_pre_some hpre
 obtain ⟨e3,hwi⟩:=Codec.encAll_of_decAll r.args args a e1
 subst e3
 have KX:=hY w _ Y
 obtain ⟨fd,hb,hF⟩:=F w mg fa _ Y KX G.T.g hmg
 refine PySem.W.enter_call (codeAny_mono (Zeg (R:=[]) (cl:=classAt s_0.heap) (d0:=r.ret.enc (Codec.app r.args r.f a)) KX G.T.g G.T.b G.T.builtins G.T.nolimit hg hwl (Z9d _ _) (Z6c hlay) hr hF hb (by rw[Z78];exact hlen)
  (fun H xs hO hS=>hsp w H xs a hO hwi e2 hS) fun H e s'=>hCX w H s₁ e s') fun r' s' hq=>?_)
 obtain ⟨u,as',rfl,h1,h2,h3,h4⟩:=hq
 exact ⟨.inl ⟨u,_,as',rfl,fun _=>rfl,h1,(OpenSpec.post_iff hwell hwi _ _).mpr rfl,fun z=>Bool.noConfusion (show false=true from z)⟩,h2,h3,h4⟩
theorem walk_specK {r:OpenSpec} {k:Nat} {q:Program} {loose:List Str} {XP:(Str→Option Value)→Heap→Prop} {YP:World→Heap→Prop} {d:DefRec} {K:Params→PySem.W.Frag} {CX:CXT} {ps:List Str} {sp:PySem.W.Frag→Sp}
  (hwell:r.wellSaid=true) (hdf:d.params.defaults=[]) (hlen:r.args.length=ps.length) (hr:Room k callerA)
  (hY:∀ (w:World) (h:Heap),YP w h→(K w.params).In h)
  (F:∀ (w:World) (mg:Str→Option Value) (fa:Addr) (h:Heap),YP w h→(K w.params).In h→h.Ns mainGlobals mg→mg d.name=some (.ref fa) →
   ∃ fd:FuncData,(∀ (s:Shared) (us:List Value),us.length=ps.length→BindsTo s fd ⟨us,[]⟩ (ps.zip us)) ∧
    ∀ base:Heap,(K w.params).In base→base.Ns mainGlobals mg→FnOk r.prog w (K w.params) mg base CX k fa fd ps (sp (K w.params)))
  (hsp:∀ (K:PySem.W.Frag) (H:Hp) (xs:List V) (a:Codec.denoteAll r.args),OnlyF H→Codec.withinAll r.args a=true→Codec.app r.args r.asked a=true→DwAll K H xs (Codec.encAll r.args a) →
   sp K xs H (fun v H'=>Dw K H' v (r.ret.enc (Codec.app r.args r.f a))) fun _ _ _=>False)
  (hCX:∀ (H:Hp) (s:Shared) (e:Value) (s':Shared),CX [] H s (fun _ _ _=>False) e s'→False) :
  PySem.W.WalkOS q loose XP YP r d [] (fun f vs=>PySem.call f vs):=
 Ze1 (K:=K) (CX:=fun _=>CX) (sp:=fun w=>sp (K w.params)) hwell hdf hlen hr hY F (fun w H xs a h1 h2 h3 h4=>hsp (K w.params) H xs a h1 h2 h3 h4) fun _ H s e s'=>hCX H s e s'
end L2
end
end
section
namespace Srt
open PySem PyProof.Rows
section
variable (kd:SortKind) (Dom:Value→Prop)
inductive Ask {β:Type} (P:β→Prop):Sem β→Prop
 | ret {b:β}:P b→Ask P (Sem.pure b)
 | cmp {x y:Value} {k:Except Value Bool→Sem β}:Dom x→Dom y→(∀ b,Ask P (k (.ok b)))→Ask P ((keyLt' kd x y).attempt >>= k)
 | rule {tag:String} {k:Unit→Sem β}:Ask P (k ())→Ask P (Sem.rule tag k)
 | stuck {w:String}:Ask P (Sem.unsupported w)
end
section
variable {kd:SortKind} {Dom:Value→Prop} {α β:Type}
theorem Ask.bind {P:α→Prop} {P':β→Prop} {m:Sem α} {f:α→Sem β} (h:Ask kd Dom P m) (hf:∀ a,P a→Ask kd Dom P' (f a)):Ask kd Dom P' (m >>= f):=by
 induction h with
 | ret hb=>exact hf _ hb
 | cmp hx hy _ ih=>
  rw[bind_assoc]
  exact Ask.cmp hx hy ih
 | rule _ ih=>exact Ask.rule ih
 | stuck=>exact Ask.stuck
def AskS (kd:SortKind) (Dom:Value→Prop) (m:StateT SortSt Sem α) (P:α→SortSt→Prop) (st:SortSt):Prop:=Ask kd Dom (fun r=>P r.1 r.2) (m.run st)
variable {st:SortSt} {P:β→SortSt→Prop} {P':α→SortSt→Prop}
theorem AskS.pure {a:β} (h:P a st):AskS kd Dom (Pure.pure a) P st:=Ask.ret h
theorem AskS.bind {m:StateT SortSt Sem α} {f:α→StateT SortSt Sem β} (h:AskS kd Dom m P' st) (hf:∀ a st',P' a st'→AskS kd Dom (f a) P st'):AskS kd Dom (m >>= f) P st:=by
 unfold AskS
 rw[StateT.run_bind]
 exact Ask.bind h fun r hr=>hf r.1 r.2 hr
theorem AskS.get_ {f:SortSt→StateT SortSt Sem β} (h:AskS kd Dom (f st) P st):AskS kd Dom (get >>= f) P st:=h
theorem AskS.set_ {t:SortSt} {f:PUnit→StateT SortSt Sem β} (h:AskS kd Dom (f ⟨⟩) P t):AskS kd Dom (set t >>= f) P st:=h
theorem AskS.modify_ {g:SortSt→SortSt} {f:PUnit→StateT SortSt Sem β} (h:AskS kd Dom (f ⟨⟩) P (g st)):AskS kd Dom (modify g >>= f) P st:=h
theorem AskS.rule_ {tag:String} {f:Unit→StateT SortSt Sem β} (h:AskS kd Dom (f ()) P st):AskS kd Dom ((liftM (PySem.rule tag):StateT SortSt Sem Unit) >>= f) P st:=Ask.rule h
theorem AskS.stuck {w:String}:AskS kd Dom (liftM (PySem.unsupported w:Sem β)) P st:=Ask.stuck
theorem AskS.mono {P2:β→SortSt→Prop} {m:StateT SortSt Sem β} (h:AskS kd Dom m P st) (hq:∀ a st',P a st'→P2 a st'):AskS kd Dom m P2 st:=by
 have:=AskS.bind (f:=fun a=>Pure.pure a) (P:=P2) h fun a st' q=>AskS.pure (hq a st' q)
 rwa [bind_pure] at this
def AD (Dom:Value→Prop) (arr:Array Keyed):Prop:=∀ p∈arr.toList,Dom p.1
def GS (kd:SortKind) (Dom:Value→Prop) (st:SortSt):Prop:=kindOf st=kd∧AD Dom (arrOf st)
theorem AskS.elem_ {arr:Array Keyed} {i:Nat} {f:Keyed→StateT SortSt Sem β} (h:AD Dom arr) (hf:∀ p:Keyed,Dom p.1→AskS kd Dom (f p) P st):AskS kd Dom (elem' arr i >>= f) P st:=by
 rw[elem'_eq]
 cases e:arr[i]? with
 | none=>exact Ask.stuck
 | some p=>
  refine AskS.bind (P':=fun a st'=>a=p∧st'=st) (AskS.pure ⟨rfl,rfl⟩) ?_
  rintro a st' ⟨rfl,rfl⟩
  exact hf _ (h _ (by rw[← Array.getElem?_toList] at e;exact List.mem_of_getElem? e))
theorem AskS.lt {x y:Keyed} {P:Option Bool→SortSt→Prop} (hx:Dom x.1) (hy:Dom y.1) (hk:kindOf st=kd) (h:∀ b,P (some b) st):AskS kd Dom (lt' x y) P st:=by
 rw[lt'_eq]
 refine AskS.get_ ?_
 rw[hk]
 unfold AskS
 rw[StateT.run_bind]
 show Ask kd Dom _ (((keyLt' kd x.1 y.1).attempt >>= fun a=>Pure.pure (a,st)) >>= _)
 rw[bind_assoc]
 refine Ask.cmp hx hy fun b=>?_
 exact Ask.ret (h b)
theorem AskS.lt_ {x y:Keyed} {f:Option Bool→StateT SortSt Sem β} (hx:Dom x.1) (hy:Dom y.1) (hk:kindOf st=kd) (h:∀ b,AskS kd Dom (f (some b)) P st):AskS kd Dom (lt' x y >>= f) P st:=
 AskS.bind (P':=fun a st'=>∃ b,a=some b∧st'=st) (AskS.lt hx hy hk fun b=>⟨b,rfl,rfl⟩) (by rintro a st' ⟨b,rfl,rfl⟩;exact h b)
theorem AskS.ltAt {i j:Nat} {P:Option Bool→SortSt→Prop} (hg:GS kd Dom st) (h:∀ b,P (some b) st):AskS kd Dom (ltAt' i j) P st:=by
 rw[ltAt'_eq]
 refine AskS.get_ ?_
 exact AskS.elem_ hg.2 fun p hp=>AskS.elem_ hg.2 fun q hq=>AskS.lt hp hq hg.1 h
theorem AskS.ltAt_ {i j:Nat} {f:Option Bool→StateT SortSt Sem β} (hg:GS kd Dom st) (h:∀ b,AskS kd Dom (f (some b)) P st):AskS kd Dom (ltAt' i j >>= f) P st:=
 AskS.bind (P':=fun a st'=>∃ b,a=some b∧st'=st) (AskS.ltAt hg fun b=>⟨b,rfl,rfl⟩) (by rintro a st' ⟨b,rfl,rfl⟩;exact h b)
theorem AskS.forIn_list {γ:Type} (f:Nat→γ→StateT SortSt Sem (ForInStep γ)) (I:γ→SortSt→Prop) (Q:γ→SortSt→Prop)
  (hstep:∀ x c st,I c st→AskS kd Dom (f x c) (fun r st'=>match r with | .done c'=>Q c' st' | .yield c'=>I c' st') st) (hend:∀ c st,I c st→Q c st) :
  ∀ (l:List Nat) (c:γ) (st:SortSt),I c st→AskS kd Dom (forIn l c f) Q st
 | [],c,st,h=>by
  rw[List.forIn_nil]
  exact AskS.pure (hend _ _ h)
 | x::l,c,st,h=>by
  rw[List.forIn_cons]
  refine AskS.bind (hstep x c st h) fun r st' hr=>?_
  cases r with
  | done c'=>exact AskS.pure hr
  | yield c'=>exact AskS.forIn_list f I Q hstep hend l c' st' hr
theorem AskS.range {γ:Type} {a b:Nat} {f:Nat→γ→StateT SortSt Sem (ForInStep γ)} (I:γ→SortSt→Prop) (Q:γ→SortSt→Prop)
  (hstep:∀ x c st,I c st→AskS kd Dom (f x c) (fun r st'=>match r with | .done c'=>Q c' st' | .yield c'=>I c' st') st) (hend:∀ c st,I c st→Q c st)
  {c:γ} {st:SortSt} (h:I c st):AskS kd Dom (forIn [a:b] c f) Q st:=by
 rw[Std.Legacy.Range.forIn_eq_forIn_range']
 exact AskS.forIn_list f I Q hstep hend _ c st h
theorem AskS.range_ {γ:Type} {a b:Nat} {f:Nat→γ→StateT SortSt Sem (ForInStep γ)} {g:γ→StateT SortSt Sem β} (I:γ→SortSt→Prop)
  (hstep:∀ x c st,I c st→AskS kd Dom (f x c) (fun r st'=>match r with | .done c'=>I c' st' | .yield c'=>I c' st') st)
  {c:γ} {st:SortSt} (h:I c st) (hg:∀ c st,I c st→AskS kd Dom (g c) P st):AskS kd Dom (forIn [a:b] c f >>= g) P st:=
 AskS.bind (AskS.range I I hstep (fun _ _ h=>h) h) hg
theorem AD.perm {a b:Array Keyed} (h:AD Dom a) (p:b.Perm a):AD Dom b:=fun q hq=>h q ((Array.perm_iff_toList_perm.mp p).mem_iff.mp hq)
theorem AD.push {a:Array Keyed} {p:Keyed} (h:AD Dom a) (hp:Dom p.1):AD Dom (a.push p):=fun q hq=>by
 rw[Array.toList_push] at hq
 rcases List.mem_append.mp hq with hq | hq
 ·exact h q hq
 ·have e:=List.mem_singleton.mp hq;subst e;exact hp
theorem AD.append {a b:Array Keyed} (h:AD Dom a) (h':AD Dom b):AD Dom (a++b):=fun q hq=>by
 rw[Array.toList_append] at hq
 rcases List.mem_append.mp hq with hq | hq
 ·exact h q hq
 ·exact h' q hq
theorem AD.extract {a:Array Keyed} {i j:Nat} (h:AD Dom a):AD Dom (a.extract i j):=fun q hq=>by
 rw[Array.toList_extract] at hq
 exact h q (List.mem_of_mem_drop (List.mem_of_mem_take hq))
theorem AD.reverse {a:Array Keyed} (h:AD Dom a):AD Dom a.reverse:=fun q hq=>by
 rw[Array.toList_reverse] at hq
 exact h q (List.mem_reverse.mp hq)
theorem AD.one {p:Keyed} (hp:Dom p.1):AD Dom #[p]:=fun q hq=>by
 have e:q=p:=by simpa using hq
 subst e;exact hp
theorem AD.set {a:Array Keyed} {i:Nat} {p:Keyed} (h:AD Dom a) (hp:Dom p.1):AD Dom (a.setIfInBounds i p):=fun q hq=>by
 rw[Array.toList_setIfInBounds] at hq
 rcases List.mem_or_eq_of_mem_set hq with hq | hq
 ·exact h q hq
 ·subst hq;exact hp
theorem AD.sets {k:Nat}:∀ {l:List (Keyed×Nat)} {a:Array Keyed},AD Dom a→(∀ p∈l,Dom p.1.1)→AD Dom (l.foldl (fun a (p,j)=>a.setIfInBounds (k+j) p) a)
 | [],a,h,_=>h
 | (p,j)::l,a,h,hl=>by
  rw[List.foldl_cons]
  exact AD.sets (AD.set h (hl (p,j) List.mem_cons_self)) fun q hq=>hl q (List.mem_cons_of_mem _ hq)
theorem GS.arr {st:SortSt} {xs:Array Keyed} (h:GS kd Dom st) (hx:AD Dom xs):GS kd Dom (setArr st xs):=⟨h.1,hx⟩
end
end Srt
end
section
namespace Srt
open PySem PyProof.Rows
section
variable {kd:SortKind} {Dom:Value→Prop} {α β:Type} {st:SortSt}
theorem GS.mirror {i j d:Nat} (h:GS kd Dom st):GS kd Dom (setArr st (mirror (arrOf st) i j d)):=h.arr (h.2.perm (mirror_perm _ _ _ _))
theorem GS.bubble {i d:Nat} (h:GS kd Dom st):GS kd Dom (setArr st (bubble (arrOf st) i d)):=h.arr (h.2.perm (bubble_perm _ _ _))
theorem AskS.rev_ {i j:Nat} {P:β→SortSt→Prop} {f:Unit→StateT SortSt Sem β} (h:GS kd Dom st) (hf:∀ st',GS kd Dom st'→AskS kd Dom (f ()) P st'):AskS kd Dom (reverseSlice' i j >>= f) P st:=by
 rw[reverseSlice'_eq]
 exact AskS.modify_ (hf _ h.mirror)
theorem AskS.move_ {i j:Nat} {P:β→SortSt→Prop} {f:Unit→StateT SortSt Sem β} (h:GS kd Dom st) (hf:∀ st',GS kd Dom st'→AskS kd Dom (f ()) P st'):AskS kd Dom (moveDown' i j >>= f) P st:=by
 rw[moveDown'_eq]
 exact AskS.modify_ (hf _ h.bubble)
theorem Z9y (lo nrem:Nat) (hg:GS kd Dom st):AskS kd Dom (countRun' lo nrem) (fun _ st'=>GS kd Dom st') st:=by
 rw[countRun'_eq]
 repeat' first
  | exact AskS.stuck
  | exact AskS.pure (show GS kd Dom _ by assumption)
  | refine AskS.ltAt_ (by assumption) fun b=>?_
  | refine AskS.rev_ (by assumption) fun st' h=>?_
  | with_reducible refine AskS.rule_ ?_
  | refine AskS.range_ (fun _ st'=>GS kd Dom st') (fun x c st' h=>?_) (by assumption) fun c st' h=>?_
  | dsimp only
  | split
theorem Z6d (lo n ok:Nat) (hg:GS kd Dom st):AskS kd Dom (binarySort' lo n ok) (fun _ st'=>GS kd Dom st') st:=by
 rw[binarySort'_eq]
 repeat' first
  | exact AskS.stuck
  | exact AskS.pure (show GS kd Dom _ by assumption)
  | refine AskS.ltAt_ (by assumption) fun b=>?_
  | refine AskS.move_ (by assumption) fun st' h=>?_
  | refine AskS.range_ (fun _ st'=>GS kd Dom st') (fun x c st' h=>?_) (by assumption) fun c st' h=>?_
  | dsimp only
  | split
end
end Srt
end
section
namespace Srt
open PySem PyProof.Rows
section
variable {kd:SortKind} {Dom:Value→Prop} {α β:Type} {st:SortSt}
theorem AskS.beyond_ {left:Bool} {key:Keyed} {arr:Array Keyed} {base i:Nat} {P:β→SortSt→Prop} {f:Option Bool→StateT SortSt Sem β} (hk:kindOf st=kd) (ha:AD Dom arr) (hd:Dom key.1) (hf:∀ b,AskS kd Dom (f (some b)) P st) :
  AskS kd Dom (beyond' left key arr base i >>= f) P st:=by
 refine AskS.bind (P':=fun a st'=>∃ b,a=some b∧st'=st) ?_ (by rintro a st' ⟨b,rfl,rfl⟩;exact hf b)
 unfold beyond'
 refine AskS.elem_ ha fun p hp=>?_
 split
 ·exact AskS.lt hp hd hk fun b=>⟨b,rfl,rfl⟩
 ·exact AskS.lt_ hd hp hk fun b=>AskS.pure ⟨!b,rfl,rfl⟩
theorem Zdw (left:Bool) (key:Keyed) (arr:Array Keyed) (base n hint:Nat) (hk:kindOf st=kd) (ha:AD Dom arr) (hd:Dom key.1):AskS kd Dom (gallop' left key arr base n hint) (fun _ st'=>st'=st) st:=by
 rw[gallop'_eq]
 repeat' first
  | exact AskS.stuck
  | exact AskS.pure (show _=st from rfl)
  | exact AskS.pure (show _=st by assumption)
  | refine AskS.beyond_ hk ha hd fun b=>?_
  | refine AskS.range_ (fun _ st'=>st'=st) (fun x c st' h=>?_) rfl fun c st' h=>?_
  | subst st'
  | dsimp only
  | split
theorem AskS.gallop_ {left:Bool} {key:Keyed} {arr:Array Keyed} {base n hint:Nat} {P:β→SortSt→Prop} {f:Option Nat→StateT SortSt Sem β} (hk:GS kd Dom st) (ha:AD Dom arr) (hd:Dom key.1) (hf:∀ r,AskS kd Dom (f r) P st) :
  AskS kd Dom (gallop' left key arr base n hint >>= f) P st:=
 AskS.bind (Zdw left key arr base n hint hk.1 ha hd) (by rintro a st' rfl;exact hf a)
theorem AskS.setG_ {g:Nat} {P:β→SortSt→Prop} {f:Unit→StateT SortSt Sem β} (h:GS kd Dom st) (hf:∀ st',GS kd Dom st'→AskS kd Dom (f ()) P st'):AskS kd Dom (setMinGallop' g >>= f) P st:=by
 rw[setMinGallop'_eq]
 exact AskS.modify_ (hf _ h)
end
end Srt
end
section
set_option maxHeartbeats 2000000
namespace Srt
open PySem PyProof.Rows
class ADs (Dom:Value→Prop) (γ:Type) where
 ok:γ→Prop
instance {Dom:Value→Prop}:ADs Dom Nat:=⟨fun _=>True⟩
instance {Dom:Value→Prop}:ADs Dom (Array Keyed):=⟨fun a=>AD Dom a⟩
instance {Dom:Value→Prop} {α β:Type} [ADs Dom α] [ADs Dom β]:ADs Dom (MProd α β):=⟨fun p=>ADs.ok Dom p.1∧ADs.ok Dom p.2⟩
instance {Dom:Value→Prop} {α β:Type} [ADs Dom α] [ADs Dom β]:ADs Dom (α×β):=⟨fun p=>ADs.ok Dom p.1∧ADs.ok Dom p.2⟩
instance {Dom:Value→Prop} {α:Type} [ADs Dom α]:ADs Dom (Option α):=⟨fun p=>∀ x,p=some x→ADs.ok Dom x⟩
section
variable {kd:SortKind} {Dom:Value→Prop} {α β:Type} {st:SortSt}
theorem AskS.ite_ {c:Prop} [Decidable c] {m1 m2:StateT SortSt Sem β} {P:β→SortSt→Prop} (h1:AskS kd Dom m1 P st) (h2:AskS kd Dom m2 P st):AskS kd Dom (if c then m1 else m2) P st:=by
 by_cases h:c
 ·rw[if_pos h];exact h1
 ·rw[if_neg h];exact h2
theorem Z8f {x:Array Keyed} (h:AD Dom x):ADs.ok Dom (some x):=fun y e=>by cases e;exact h
theorem Um:ADs.ok Dom (none:Option (Array Keyed)):=fun y e=>by cases e
theorem okP {α β:Type} [ADs Dom α] [ADs Dom β] {a:α} {b:β} (h:ADs.ok Dom a) (k:ADs.ok Dom b):ADs.ok Dom (a,b):=⟨h,k⟩
theorem okN {n:Nat}:ADs.ok Dom n:=True.intro
theorem okA {x:Array Keyed} (h:AD Dom x):ADs.ok Dom x:=h
noncomputable def stepV {γ:Type}:ForInStep γ→γ
 | .done c=>c
 | .yield c=>c
theorem AskS.rangeG_ {γ:Type} [ADs Dom γ] {a b:Nat} {f:Nat→γ→StateT SortSt Sem (ForInStep γ)} {g:γ→StateT SortSt Sem β} {P:β→SortSt→Prop}
  (hstep:∀ x c st,GS kd Dom st→ADs.ok Dom c→AskS kd Dom (f x c) (fun r st'=>GS kd Dom st'∧ADs.ok Dom (stepV r)) st)
  {c:γ} {st:SortSt} (h:GS kd Dom st) (hc:ADs.ok Dom c) (hg:∀ c st,GS kd Dom st→ADs.ok Dom c→AskS kd Dom (g c) P st):AskS kd Dom (forIn [a:b] c f >>= g) P st:=
 AskS.range_ (fun c st'=>GS kd Dom st'∧ADs.ok Dom c) (fun x c st h=>AskS.mono (hstep x c st h.1 h.2) fun r st' q=>by cases r <;> exact q) ⟨h,hc⟩ fun c st h=>hg c st h.1 h.2
theorem AskS.gallop2_ {left:Bool} {key:Keyed} {arr:Array Keyed} {base n hint:Nat} {P:β→SortSt→Prop} {f:Option Nat→StateT SortSt Sem β} (hk:GS kd Dom st) (ha:AD Dom arr) (hd:Dom key.1) (hf:∀ r,AskS kd Dom (f (some r)) P st) (hn:AskS kd Dom (f none) P st) :
  AskS kd Dom (gallop' left key arr base n hint >>= f) P st:=AskS.gallop_ hk ha hd fun r=>by
 cases r with
 | none=>exact hn
 | some r=>exact hf r
theorem AskS.lt3_ {x y:Keyed} {P:β→SortSt→Prop} {f:Option Bool→StateT SortSt Sem β} (hx:Dom x.1) (hy:Dom y.1) (hk:GS kd Dom st) (h:∀ b,AskS kd Dom (f (some b)) P st):AskS kd Dom (lt' x y >>= f) P st:=AskS.lt_ hx hy hk.1 h
theorem AskS.fin {γ:Type} [ADs Dom γ] {c:γ} (h:GS kd Dom st) (hc:ADs.ok Dom c):AskS kd Dom (Pure.pure (ForInStep.done c):StateT SortSt Sem (ForInStep γ)) (fun r st'=>GS kd Dom st'∧ADs.ok Dom (stepV r)) st:=AskS.pure ⟨h,hc⟩
theorem AskS.yld {γ:Type} [ADs Dom γ] {c:γ} (h:GS kd Dom st) (hc:ADs.ok Dom c):AskS kd Dom (Pure.pure (ForInStep.yield c):StateT SortSt Sem (ForInStep γ)) (fun r st'=>GS kd Dom st'∧ADs.ok Dom (stepV r)) st:=AskS.pure ⟨h,hc⟩
theorem Z5n (a b:Array Keyed) (hg:GS kd Dom st) (ha:AD Dom a) (hb:AD Dom b):AskS kd Dom (mergeLo' a b) (fun r st'=>GS kd Dom st'∧AD Dom r) st:=by
 rw[mergeLo'_eq]
 refine AskS.rule_ ?_
 refine AskS.elem_ hb fun p hp=>?_
 refine AskS.ite_ ?_ ?_
 ·refine AskS.pure ⟨hg,?_⟩
  exact ((AD.one hp).append ha.extract).append hb.extract
 refine AskS.ite_ ?_ ?_
 ·refine AskS.pure ⟨hg,?_⟩
  exact ((AD.one hp).append hb.extract).append ha.extract
 refine AskS.get_ ?_
 refine AskS.rangeG_ ?_ hg (okP Um (okP (okA (AD.one hp)) (okP okN (okP okN okN)))) ?_
 ·rintro x ⟨r0,out,ia,ib,mg⟩ st1 hg1 ⟨_,ho,_⟩
  have ho:AD Dom out:=ho
  refine AskS.rangeG_ ?_ hg1 (okP Um (okP (okA ho) (okP okN (okP okN (okP okN okN))))) ?_
  ·rintro x ⟨r0,out,ia,ib,ac,bc⟩ st2 hg2 ⟨_,ho2,_⟩
   have ho2:AD Dom out:=ho2
   repeat' first
    | with_reducible assumption
    | with_reducible exact Um
    | with_reducible refine Z8f ?_
    | with_reducible refine AD.append ?_ ?_
    | with_reducible refine AD.push ?_ (by assumption)
    | with_reducible exact AD.extract (by assumption)
    | with_reducible refine AD.reverse ?_
    | with_reducible refine AskS.fin (by assumption) (okP ?_ (okP (okA ?_) (okP okN (okP okN (okP okN okN)))))
    | with_reducible refine AskS.yld (by assumption) (okP ?_ (okP (okA ?_) (okP okN (okP okN (okP okN okN)))))
    | with_reducible refine AskS.elem_ (by assumption) fun p hp=>?_
    | with_reducible refine AskS.lt3_ (by assumption) (by assumption) (by assumption) fun b=>?_
    | with_reducible refine AskS.ite_ ?_ ?_
    | dsimp only
  ·rintro ⟨_ | r,out,ia,ib,ac,bc⟩ st2 hg2 ⟨h2,ho2,_⟩
   ·have ho2:AD Dom out:=ho2
    refine AskS.rule_ ?_
    refine AskS.rangeG_ ?_ hg2 (okP Um (okP (okA ho2) (okP okN (okP okN (okP okN (okP okN okN)))))) ?_
    ·rintro x ⟨r0,out,ia,ib,mg,ac,bc⟩ st3 hg3 ⟨_,ho3,_⟩
     have ho3:AD Dom out:=ho3
     repeat' first
      | with_reducible assumption
      | with_reducible exact Um
      | with_reducible refine Z8f ?_
      | with_reducible refine AD.append ?_ ?_
      | with_reducible refine AD.push ?_ (by assumption)
      | with_reducible exact AD.extract (by assumption)
      | with_reducible refine AD.reverse ?_
      | with_reducible refine AskS.fin (by assumption) (okP ?_ (okP (okA ?_) (okP okN (okP okN (okP okN (okP okN okN))))))
      | with_reducible refine AskS.yld (by assumption) (okP ?_ (okP (okA ?_) (okP okN (okP okN (okP okN (okP okN okN))))))
      | with_reducible refine AskS.elem_ (by assumption) fun p hp=>?_
      | with_reducible refine AskS.setG_ (by assumption) fun st' h=>?_
      | with_reducible refine AskS.gallop2_ (by assumption) (by assumption) (by assumption) (fun r=>?_) ?_
      | with_reducible refine AskS.ite_ ?_ ?_
      | dsimp only
    ·rintro ⟨_ | r,out,ia,ib,mg,ac,bc⟩ st3 hg3 ⟨h3,ho3,_⟩
     ·refine AskS.setG_ hg3 fun st' h=>?_
      exact AskS.yld h ⟨h3,ho3,trivial,trivial,trivial⟩
     ·exact AskS.fin hg3 ⟨h3,ho3,trivial,trivial,trivial⟩
   ·exact AskS.fin hg2 ⟨h2,ho2,trivial,trivial,trivial⟩
 ·rintro ⟨_ | r,out,ia,ib,mg⟩ st1 hg1 ⟨h0,ho,_⟩
  ·exact AskS.stuck
  ·exact AskS.pure ⟨hg1,h0 r rfl⟩
theorem Z5o (a b:Array Keyed) (hg:GS kd Dom st) (ha:AD Dom a) (hb:AD Dom b):AskS kd Dom (mergeHi' a b) (fun r st'=>GS kd Dom st'∧AD Dom r) st:=by
 rw[mergeHi'_eq]
 refine AskS.rule_ ?_
 refine AskS.elem_ ha fun p hp=>?_
 refine AskS.ite_ ?_ ?_
 ·refine AskS.pure ⟨hg,?_⟩
  exact (ha.extract.append hb.extract).append (AD.one hp).reverse
 refine AskS.ite_ ?_ ?_
 ·refine AskS.pure ⟨hg,?_⟩
  exact (hb.extract.append ha.extract).append (AD.one hp).reverse
 refine AskS.get_ ?_
 refine AskS.rangeG_ ?_ hg (okP Um (okP okN (okP okN (okP (okA (AD.one hp)) okN)))) ?_
 ·rintro x ⟨r0,na,nb,out,mg⟩ st1 hg1 ⟨_,_,_,ho,_⟩
  have ho:AD Dom out:=ho
  refine AskS.rangeG_ ?_ hg1 (okP Um (okP okN (okP okN (okP (okA ho) (okP okN okN))))) ?_
  ·rintro x ⟨r0,na,nb,out,ac,bc⟩ st2 hg2 ⟨_,_,_,ho2,_⟩
   have ho2:AD Dom out:=ho2
   repeat' first
    | with_reducible assumption
    | with_reducible exact Um
    | with_reducible refine Z8f ?_
    | with_reducible refine AD.append ?_ ?_
    | with_reducible refine AD.push ?_ (by assumption)
    | with_reducible exact AD.extract (by assumption)
    | with_reducible refine AD.reverse ?_
    | with_reducible refine AskS.fin (by assumption) (okP ?_ (okP okN (okP okN (okP (okA ?_) (okP okN okN)))))
    | with_reducible refine AskS.yld (by assumption) (okP ?_ (okP okN (okP okN (okP (okA ?_) (okP okN okN)))))
    | with_reducible refine AskS.elem_ (by assumption) fun p hp=>?_
    | with_reducible refine AskS.lt3_ (by assumption) (by assumption) (by assumption) fun b=>?_
    | with_reducible refine AskS.ite_ ?_ ?_
    | dsimp only
  ·rintro ⟨_ | r,na,nb,out,ac,bc⟩ st2 hg2 ⟨h2,_,_,ho2,_⟩
   ·have ho2:AD Dom out:=ho2
    refine AskS.rule_ ?_
    refine AskS.rangeG_ ?_ hg2 (okP Um (okP okN (okP okN (okP (okA ho2) (okP okN (okP okN okN)))))) ?_
    ·rintro x ⟨r0,na,nb,out,mg,ac,bc⟩ st3 hg3 ⟨_,_,_,ho3,_⟩
     have ho3:AD Dom out:=ho3
     repeat' first
      | with_reducible assumption
      | with_reducible exact Um
      | with_reducible refine Z8f ?_
      | with_reducible refine AD.append ?_ ?_
      | with_reducible refine AD.push ?_ (by assumption)
      | with_reducible exact AD.extract (by assumption)
      | with_reducible refine AD.reverse ?_
      | with_reducible refine AskS.fin (by assumption) (okP ?_ (okP okN (okP okN (okP (okA ?_) (okP okN (okP okN okN))))))
      | with_reducible refine AskS.yld (by assumption) (okP ?_ (okP okN (okP okN (okP (okA ?_) (okP okN (okP okN okN))))))
      | with_reducible refine AskS.elem_ (by assumption) fun p hp=>?_
      | with_reducible refine AskS.setG_ (by assumption) fun st' h=>?_
      | with_reducible refine AskS.gallop2_ (by assumption) (by assumption) (by assumption) (fun r=>?_) ?_
      | with_reducible refine AskS.ite_ ?_ ?_
      | dsimp only
    ·rintro ⟨_ | r,na,nb,out,mg,ac,bc⟩ st3 hg3 ⟨h3,_,_,ho3,_⟩
     ·refine AskS.setG_ hg3 fun st' h=>?_
      exact AskS.yld h ⟨h3,trivial,trivial,ho3,trivial⟩
     ·exact AskS.fin hg3 ⟨h3,trivial,trivial,ho3,trivial⟩
   ·exact AskS.fin hg2 ⟨h2,trivial,trivial,ho2,trivial⟩
 ·rintro ⟨_ | r,na,nb,out,mg⟩ st1 hg1 ⟨h0,_,_,ho,_⟩
  ·exact AskS.stuck
  ·exact AskS.pure ⟨hg1,h0 r rfl⟩
end
end Srt
end
section
set_option maxHeartbeats 2000000
namespace Srt
open PySem PyProof.Rows
section
variable {kd:SortKind} {Dom:Value→Prop} {α β:Type} {st:SortSt}
theorem Z17 {x:Keyed×Nat}:∀ {l:List Keyed} {n:Nat},x∈l.zipIdx n→x.1∈l
 | [],n,h=>by simp at h
 | a::l,n,h=>by
  rw[List.zipIdx_cons] at h
  rcases List.mem_cons.mp h with rfl | h
  ·exact List.mem_cons_self
  ·exact List.mem_cons_of_mem _ (Z17 h)
theorem Zb9 (i:Nat) (hg:GS kd Dom st):AskS kd Dom (mergeAt' i) (fun _ st'=>GS kd Dom st') st:=by
 rw[mergeAt'_eq]
 refine AskS.get_ ?_
 have key:∀ (sa na power sb nb pw2:Nat) (pn:Array (Nat×Nat×Nat)),AskS kd Dom (do
   set (setPending st pn)
   let some k ← gallop' false (← elem' (arrOf st) sb) (arrOf st) sa na 0 | return false
   let (sa,na):=(sa+k,na-k)
   if na==0 then return true
   let some nb ← gallop' true (← elem' (arrOf st) (sa+na-1)) (arrOf st) sb nb (nb-1) | return false
   if nb==0 then return true
   let x:=(arrOf st).extract sa sb
   let y:=(arrOf st).extract sb (sb+nb)
   let merged ← if na≤nb then mergeLo' x y else mergeHi' x y
   modify fun s=>setArr s (merged.toList.zipIdx.foldl (fun a (p,j)=>a.setIfInBounds (sa+j) p) (arrOf s))
   return (failedOf (← get)).isNone) (fun _ st'=>GS kd Dom st') st:=by
  intro sa na power sb nb pw2 pn
  refine AskS.set_ ?_
  have h1:GS kd Dom (setPending st pn):=⟨hg.1,hg.2⟩
  refine AskS.elem_ hg.2 fun p hp=>?_
  refine AskS.gallop2_ h1 hg.2 hp (fun k=>?_) (AskS.pure h1)
  refine AskS.ite_ (AskS.pure h1) ?_
  refine AskS.elem_ hg.2 fun q hq=>?_
  refine AskS.gallop2_ h1 hg.2 hq (fun k2=>?_) (AskS.pure h1)
  refine AskS.ite_ (AskS.pure h1) ?_
  have fin:∀ (merged:Array Keyed) (st2:SortSt),GS kd Dom st2∧AD Dom merged→AskS kd Dom (do
    modify fun s=>setArr s (merged.toList.zipIdx.foldl (fun a (p,j)=>a.setIfInBounds (sa+k+j) p) (arrOf s))
    return (failedOf (← get)).isNone) (fun _ st'=>GS kd Dom st') st2:=by
   intro merged st2 ⟨g2,hm⟩
   refine AskS.modify_ ?_
   refine AskS.get_ ?_
   exact AskS.pure (g2.arr (AD.sets g2.2 fun x hx=>hm _ (Z17 hx)))
  first
   | exact AskS.bind (AskS.ite_ (Z5n _ _ h1 hg.2.extract hg.2.extract) (Z5o _ _ h1 hg.2.extract hg.2.extract)) fin
   | exact AskS.ite_ (AskS.bind (Z5n _ _ h1 hg.2.extract hg.2.extract) fin) (AskS.bind (Z5o _ _ h1 hg.2.extract hg.2.extract) fin)
 split
 ·exact key _ _ 0 _ _ 0 _
 ·exact AskS.stuck
theorem AskS.mergeAt_ {i:Nat} {P:β→SortSt→Prop} {f:Bool→StateT SortSt Sem β} (hg:GS kd Dom st) (hf:∀ b st',GS kd Dom st'→AskS kd Dom (f b) P st'):AskS kd Dom (mergeAt' i >>= f) P st:=
 AskS.bind (Zb9 i hg) hf
theorem AskS.binary_ {lo n ok:Nat} {P:β→SortSt→Prop} {f:Bool→StateT SortSt Sem β} (hg:GS kd Dom st) (hf:∀ b st',GS kd Dom st'→AskS kd Dom (f b) P st'):AskS kd Dom (binarySort' lo n ok >>= f) P st:=
 AskS.bind (Z6d lo n ok hg) hf
theorem AskS.count_ {lo n:Nat} {P:β→SortSt→Prop} {f:Option Nat→StateT SortSt Sem β} (hg:GS kd Dom st) (hf:∀ b st',GS kd Dom st'→AskS kd Dom (f b) P st'):AskS kd Dom (countRun' lo n >>= f) P st:=
 AskS.bind (Z9y lo n hg) hf
theorem GS.pend {p:Array (Nat×Nat×Nat)} (h:GS kd Dom st):GS kd Dom (setPending st p):=⟨h.1,h.2⟩
theorem AskS.pendm_ {g:SortSt→Array (Nat×Nat×Nat)} {P:β→SortSt→Prop} {f:PUnit→StateT SortSt Sem β} (hg:GS kd Dom st) (h:∀ st',GS kd Dom st'→AskS kd Dom (f ⟨⟩) P st'):AskS kd Dom ((_root_.modify (fun s=>setPending s (g s)):StateT SortSt Sem PUnit) >>= f) P st:=
 AskS.modify_ (h _ hg.pend)
theorem Z9x (hg:GS kd Dom st):AskS kd Dom sortRuns' (fun _ st'=>GS kd Dom st') st:=by
 rw[sortRuns'_eq]
 refine AskS.get_ ?_
 repeat' first
  | with_reducible exact AskS.pure (show GS kd Dom _ by assumption)
  | with_reducible refine AskS.count_ (by assumption) fun b st' h=>?_
  | with_reducible refine AskS.binary_ (by assumption) fun b st' h=>?_
  | with_reducible refine AskS.mergeAt_ (by assumption) fun b st' h=>?_
  | with_reducible refine AskS.pendm_ (by assumption) fun st' h=>?_
  | with_reducible refine AskS.rule_ ?_
  | with_reducible refine AskS.get_ ?_
  | with_reducible refine AskS.range_ (fun _ st'=>GS kd Dom st') (fun x c st' h=>?_) (by assumption) fun c st' h=>?_
  | with_reducible refine AskS.ite_ ?_ ?_
  | dsimp only
  | split
end
end Srt
end
section
namespace Srt
open PySem PyProof.Rows
open Sem (wp)
def Says (M:Model) (Γ:Ctx) (kd:SortKind) (s:Shared) (x y:Value) (b:Bool):Prop:=
 ∀ (R:Except Value Bool→Pos→Shared→Prop) (E:Value→Pos→Shared→Prop) (p:Pos),(∀ p',R (.ok b) p' s)→wp M Γ (keyLt' kd x y).attempt R E p s
def SaysOnly (M:Model) (Γ:Ctx) (kd:SortKind) (s:Shared) (x y:Value) (b:Bool):Prop:=
 ∀ (R:Except Value Bool→Pos→Shared→Prop) (E:Value→Pos→Shared→Prop) (p:Pos),wp M Γ (keyLt' kd x y).attempt R E p s→∃ p',R (.ok b) p' s
theorem Ask.run {M:Model} {Γ:Ctx} {kd:SortKind} {Dom:Value→Prop} {s s2:Shared} {β:Type} {P:β→Prop} {t:Sem β} (h:Ask kd Dom P t)
  (hc:∀ x y,Dom x→Dom y→∃ b,Says M Γ kd s x y b∧SaysOnly M Γ kd s2 x y b) {Q:β→Prop} {E F:Value→Pos→Shared→Prop} :
  ∀ {p p1:Pos},wp M Γ t (fun a _ s'=>s'=s2∧Q a) F p s2→wp M Γ t (fun a _ s'=>s'=s∧P a∧Q a) E p1 s:=by
 induction h with
 | ret hb=>
  intro p p1 hq
  rw[Sem.wp_pure] at hq ⊢
  exact ⟨rfl,hb,hq.2⟩
 | cmp hx hy _ ih=>
  intro p p1 hq
  rw[Sem.wp_bind'] at hq ⊢
  obtain ⟨b,h1,h2⟩:=hc _ _ hx hy
  obtain ⟨p',h'⟩:=h2 _ _ _ hq
  exact h1 _ _ _ fun p''=>ih b h'
 | rule _ ih=>
  intro p p1 hq
  rw[Sem.wp_rule] at hq ⊢
  exact ih hq
 | stuck=>
  intro p p1 hq
  rw[Sem.wp_unsupported] at hq
  exact hq.elim
theorem AskS.run {M:Model} {A:Around} {E F:Value→Shared→Prop} {kd:SortKind} {Dom:Value→Prop} {s s2:Shared} {α:Type} {m:StateT SortSt Sem α} {P:α→SortSt→Prop} {st:SortSt} (h:AskS kd Dom m P st)
  (hc:∀ Γ:Ctx,Γ.In A→∀ x y,Dom x→Dom y→∃ b,Says M Γ kd s x y b∧SaysOnly M Γ kd s2 x y b) {Q:α→SortSt→Prop} (hw:wpS M A F s2 m Q st):wpS M A E s m (fun a st'=>P a st'∧Q a st') st:=by
 intro Γ p hΓ
 exact Ask.run h (hc Γ hΓ) (hw Γ p hΓ)
theorem Says.of {M:Model} {A:Around} {Γ:Ctx} {kd:SortKind} {s:Shared} {x y:Value} {b:Bool} (hΓ:Γ.In A) (h:∀ (Q:Bool→Shared→Prop) (E:Value→Shared→Prop),Q b s→wpAny M A (keyLt' kd x y) Q E s):Says M Γ kd s x y b:=by
 intro R E p hR
 rw[Sem.wp_attempt]
 have:=h (fun a s'=>∀ p',R (.ok a) p' s') (fun _ _=>False) hR Γ p hΓ
 exact Sem.wp_mono M Γ (keyLt' kd x y) (fun a p' s' q=>q p') (fun e p' s' q=>False.elim q) _ _ this
end Srt
end
section
namespace PySem
def RS (M:Model) (Γ:Ctx) (s':Shared) (e:End) (F:Frame) (fs:List Frame) (s1:Shared):End→Prop
 | .ret r=>match F with
  | .ret k _ _ _ c₁ p₁ _=>Runs M (Γ.goto c₁) p₁ (k r) fs s1 e s'
  | .gen g k _ c₁ p₁=>Runs M (Γ.goto c₁) p₁ (k (End.ret r).result) fs (s1.setGen g .finished) e s'
 | .susp v g₀ l₀ k₀ c₀ p₀ f₀=>match splitAtGen (F::fs) with
  | none=>e=.susp v g₀ l₀ k₀ c₀ p₀ (f₀++F::fs)∧s'=s1
  | some (pre,(g,k,c₁,p₁),rest)=>Runs M (Γ.goto c₁) p₁ (k (.yielded v)) rest (s1.setGen g (End.susp v g₀ l₀ k₀ c₀ p₀ (f₀++pre)).genState) e s'
def RC (M:Model) (Γ:Ctx) (p:Pos) (s':Shared) (e:End) (F:Frame) (k:Result→Sem Fin) (s1:Shared):End→Prop
 | .ret r=>Runs M Γ p (k r) [] s1 e s'
 | .susp v g₀ l₀ k₀ c₀ p₀ f₀=>e=.susp v g₀ l₀ k₀ c₀ p₀ (f₀++[F])∧s'=s1
def RT (M:Model) (Γ:Ctx) (p:Pos) (s:Shared) (e:End) (s':Shared):Sem Fin→Prop
 | .pure (.done f)=>e=.ret (.ok f)∧s'=s
 | .pure (.again c)=>Runs M (Γ.goto c) p (M.den c) [] s e s'
 | .raise x=>e=.ret (.error x)∧s'=s
 | .rule _ k=>Runs M Γ p (k ()) [] s e s'
 | .at p' k=>Runs M Γ p' (k ()) [] s e s'
 | .load a _ k=>∃ o,s.heap.get? a=some o∧Runs M Γ p (k o) [] s e s'
 | .update a _ f k=>Runs M Γ p (k ()) [] {s with heap:=s.heap.update a f} e s'
 | .loadIfAlive a k=>Runs M Γ p (k (s.heap.get? a)) [] s e s'
 | .point _ k=>Runs M Γ p (k ()) [] s e s'
 | .alloc o k=>Runs M Γ p (k s.heap.objs.size) [] {s with heap:=s.heap.push o} e s'
 | .fresh k=>Runs M Γ p (k s.toks) [] {s with toks:=s.toks+1} e s'
 | .ask k=>Runs M Γ p (k ⟨M.prog,M.w.params⟩) [] s e s'
 | .choose src n k=>Runs M Γ p (k (M.w.draws src (s.drawn.get src)%n)) [] {s with drawn:=s.drawn.bump src} e s'
 | .os q _ k=>Runs M Γ p (k (Os.step s.os q).2) [] {s with os:=(Os.step s.os q).1} e s'
 | .handled own k=>Runs M Γ p (k (if own then Γ.own else Γ.handled)) [] s e s'
 | .genState g k=>∃ st,s.gens[g]?=some st∧Runs M Γ p (k st.seen) [] s e s'
 | .stack k=>Runs M Γ p (k ((Γ.code,p)::Γ.below)) [] s e s'
 | .thread k=>Runs M Γ p (k 0) [] s e s'
 | .newGen c k=>Runs M Γ p (k s.gens.size) [] {s with gens:=s.gens.push (.fresh c)} e s'
 | .call c h g l k=>∃ e1 s1,Runs M (Γ.enter c h p) p (M.den c) [] s e1 s1∧RC M Γ p s' e (.ret k h g l Γ.code p []) k s1 e1
 | .yield v g l k=>e=.susp v g l k Γ.code p []∧s'=s
 | .resume g r _ k=>∃ res s1,Wakes M Γ p g r s res s1∧Runs M Γ p (k res) [] s1 e s'
 | _=>False
def RI (M:Model) (Γ:Ctx) (p:Pos) (t:Sem Fin) (s:Shared) (e:End) (s':Shared):List Frame→Prop
 | []=>RT M Γ p s e s' t
 | F::fs=>∃ e1 s1,Runs M (Γ.over (F::fs)) p t [] s e1 s1∧RS M Γ s' e F fs s1 e1
theorem Runs.inv {M:Model} {Γ:Ctx} {p:Pos} {t:Sem Fin} {fs:List Frame} {s:Shared} {e:End} {s':Shared} (h:Runs M Γ p t fs s e s'):RI M Γ p t s e s' fs:=by
 cases h with
 | done=>exact ⟨rfl,rfl⟩
 | raise=>exact ⟨rfl,rfl⟩
 | yield=>exact ⟨rfl,rfl⟩
 | again _ h=>exact h
 | rule h=>exact h
 | «at» h=>exact h
 | load a h=>exact ⟨_,a,h⟩
 | update _ h=>exact h
 | loadIfAlive h=>exact h
 | point h=>exact h
 | alloc h=>exact h
 | fresh h=>exact h
 | ask h=>exact h
 | choose _ h=>exact h
 | os h=>exact h
 | handled h=>exact h
 | genState a h=>exact ⟨_,a,h⟩
 | stack h=>exact h
 | thread h=>exact h
 | newGen h=>exact h
 | call a h=>exact ⟨_,_,a,h⟩
 | callSusp a=>exact ⟨_,_,a,rfl,rfl⟩
 | resumeFresh a b c d=>exact ⟨_,_,by unfold Wakes;rw[a];exact ⟨_,_,b,c,rfl,rfl⟩,d⟩
 | resumeSuspended a b c d=>exact ⟨_,_,by unfold Wakes;rw[a];exact ⟨_,_,b,c,rfl,rfl⟩,d⟩
 | resumeJustStarted a n d=>
  refine ⟨_,_,?_,d⟩
  unfold Wakes
  rw[a]
  dsimp only
  split
  ·rename_i q
   injection q with q
   exact (n q).elim
  ·exact ⟨rfl,rfl⟩
  ·rename_i q;cases q
 | resumeThrowFresh a d=>exact ⟨_,_,by unfold Wakes;rw[a];exact ⟨rfl,rfl⟩,d⟩
 | resumeRunning a d=>exact ⟨_,_,by unfold Wakes;rw[a];exact ⟨rfl,rfl⟩,d⟩
 | resumeFinished a d=>exact ⟨_,_,by unfold Wakes;rw[a];exact ⟨rfl,rfl⟩,d⟩
 | segRet a h=>exact ⟨_,_,a,h⟩
 | segGen a h=>exact ⟨_,_,a,h⟩
 | segSuspOut q a=>exact ⟨_,_,a,by unfold RS;rw[q];exact ⟨rfl,rfl⟩⟩
 | segSuspGen q a _ h=>exact ⟨_,_,a,by unfold RS;rw[q];exact h⟩
theorem Runs.det {M:Model} {Γ:Ctx} {p:Pos} {t:Sem Fin} {fs:List Frame} {s:Shared} {e:End} {s':Shared} (h1:Runs M Γ p t fs s e s'):∀ {e2:End} {s2:Shared},Runs M Γ p t fs s e2 s2→e=e2∧s'=s2:=by
 induction h1 with
 | done=>intro e2 s2 h2;exact ⟨h2.inv.1.symm,h2.inv.2.symm⟩
 | raise=>intro e2 s2 h2;exact ⟨h2.inv.1.symm,h2.inv.2.symm⟩
 | yield=>intro e2 s2 h2;exact ⟨h2.inv.1.symm,h2.inv.2.symm⟩
 | again _ _ ih=>intro e2 s2 h2;exact ih h2.inv
 | rule _ ih=>intro e2 s2 h2;exact ih h2.inv
 | «at» _ ih=>intro e2 s2 h2;exact ih h2.inv
 | load ho _ ih=>
  intro e2 s2 h2
  obtain ⟨o',ho',h⟩:=h2.inv
  cases ho.symm.trans ho'
  exact ih h
 | update _ _ ih=>intro e2 s2 h2;exact ih h2.inv
 | loadIfAlive _ ih=>intro e2 s2 h2;exact ih h2.inv
 | point _ ih=>intro e2 s2 h2;exact ih h2.inv
 | alloc _ ih=>intro e2 s2 h2;exact ih h2.inv
 | fresh _ ih=>intro e2 s2 h2;exact ih h2.inv
 | ask _ ih=>intro e2 s2 h2;exact ih h2.inv
 | choose _ _ ih=>intro e2 s2 h2;exact ih h2.inv
 | os _ ih=>intro e2 s2 h2;exact ih h2.inv
 | handled _ ih=>intro e2 s2 h2;exact ih h2.inv
 | genState hg _ ih=>
  intro e2 s2 h2
  obtain ⟨o',ho',h⟩:=h2.inv
  cases hg.symm.trans ho'
  exact ih h
 | stack _ ih=>intro e2 s2 h2;exact ih h2.inv
 | thread _ ih=>intro e2 s2 h2;exact ih h2.inv
 | newGen _ ih=>intro e2 s2 h2;exact ih h2.inv
 | call _ _ ih1 ih2=>
  intro e2 s2 h2
  obtain ⟨e1,s1,a,b⟩:=h2.inv
  obtain ⟨rfl,rfl⟩:=ih1 a
  exact ih2 b
 | callSusp _ ih1=>
  intro e2 s2 h2
  obtain ⟨e1,s1,a,b⟩:=h2.inv
  obtain ⟨rfl,rfl⟩:=ih1 a
  exact ⟨b.1.symm,b.2.symm⟩
 | resumeFresh hg _ _ _ ih1 ih2=>
  intro e2 s2 h2
  obtain ⟨res,s1,w,b⟩:=h2.inv
  unfold Wakes at w
  rw[hg] at w
  obtain ⟨e1,s3,a,_,rfl,rfl⟩:=w
  obtain ⟨rfl,rfl⟩:=ih1 a
  exact ih2 b
 | resumeSuspended hg _ _ _ ih1 ih2=>
  intro e2 s2 h2
  obtain ⟨res,s1,w,b⟩:=h2.inv
  unfold Wakes at w
  rw[hg] at w
  obtain ⟨e1,s3,a,_,rfl,rfl⟩:=w
  obtain ⟨rfl,rfl⟩:=ih1 a
  exact ih2 b
 | resumeJustStarted hg n _ ih=>
  intro e2 s2 h2
  obtain ⟨res,s1,w,b⟩:=h2.inv
  unfold Wakes at w
  rw[hg] at w
  dsimp only at w
  split at w
  ·rename_i q
   injection q with q
   exact (n q).elim
  ·obtain ⟨rfl,rfl⟩:=w
   exact ih b
  ·rename_i q;cases q
 | resumeThrowFresh hg _ ih=>
  intro e2 s2 h2
  obtain ⟨res,s1,w,b⟩:=h2.inv
  unfold Wakes at w
  rw[hg] at w
  obtain ⟨rfl,rfl⟩:=w
  exact ih b
 | resumeRunning hg _ ih=>
  intro e2 s2 h2
  obtain ⟨res,s1,w,b⟩:=h2.inv
  unfold Wakes at w
  rw[hg] at w
  obtain ⟨rfl,rfl⟩:=w
  exact ih b
 | resumeFinished hg _ ih=>
  intro e2 s2 h2
  obtain ⟨res,s1,w,b⟩:=h2.inv
  unfold Wakes at w
  rw[hg] at w
  obtain ⟨rfl,rfl⟩:=w
  exact ih b
 | segRet _ _ ih1 ih2=>
  intro e2 s2 h2
  obtain ⟨e1,s1,a,b⟩:=h2.inv
  obtain ⟨rfl,rfl⟩:=ih1 a
  exact ih2 b
 | segGen _ _ ih1 ih2=>
  intro e2 s2 h2
  obtain ⟨e1,s1,a,b⟩:=h2.inv
  obtain ⟨rfl,rfl⟩:=ih1 a
  exact ih2 b
 | segSuspOut hs _ ih1=>
  intro e2 s2 h2
  obtain ⟨e1,s1,a,b⟩:=h2.inv
  obtain ⟨rfl,rfl⟩:=ih1 a
  unfold RS at b
  rw[hs] at b
  exact ⟨b.1.symm,b.2.symm⟩
 | segSuspGen hs _ _ _ ih1 ih2=>
  intro e2 s2 h2
  obtain ⟨e1,s1,a,b⟩:=h2.inv
  obtain ⟨rfl,rfl⟩:=ih1 a
  unfold RS at b
  rw[hs] at b
  exact ih2 b
theorem Wakes.det {M:Model} {Γ:Ctx} {p:Pos} {g:Nat} {r:Resume} {s:Shared} {a b:GenResult} {s1 s2:Shared} (h1:Wakes M Γ p g r s a s1) (h2:Wakes M Γ p g r s b s2):a=b∧s1=s2:=by
 unfold Wakes at h1 h2
 split at h1
 ·exact h1.elim
 ·rename_i c hg
  rw[hg] at h2
  dsimp only at h2
  split at h1
  ·obtain ⟨e1,t1,r1,_,rfl,rfl⟩:=h1
   obtain ⟨e2,t2,r2,_,rfl,rfl⟩:=h2
   obtain ⟨rfl,rfl⟩:=r1.det r2
   exact ⟨rfl,rfl⟩
  ·split at h2
   ·rename_i hn0 _ hn
    injection hn with q
    exact (hn0 q).elim
   ·rw[h1.1,h1.2,h2.1,h2.2];exact ⟨rfl,rfl⟩
   ·rename_i q
    cases q
  ·rw[h1.1,h1.2,h2.1,h2.2];exact ⟨rfl,rfl⟩
 ·rename_i hg
  rw[hg] at h2
  dsimp only at h2
  obtain ⟨e1,t1,r1,_,rfl,rfl⟩:=h1
  obtain ⟨e2,t2,r2,_,rfl,rfl⟩:=h2
  obtain ⟨rfl,rfl⟩:=r1.det r2
  exact ⟨rfl,rfl⟩
 all_goals
  rename_i hg
  rw[hg] at h2
  dsimp only at h2
  first
   | (rw[h1.1,h1.2,h2.1,h2.2];exact ⟨rfl,rfl⟩)
   | trivial
namespace Sem
theorem wp_both {α:Type} {M:Model} {Γ:Ctx} {Q Q':α→Pos→Shared→Prop} {E E':Value→Pos→Shared→Prop}:∀ (m:Sem α) {p:Pos} {s:Shared},wp M Γ m Q E p s→wp M Γ m Q' E' p s →
  (∃ a p' s',Q a p' s'∧Q' a p' s')∨(∃ e p' s',E e p' s'∧E' e p' s'):=by
 intro m
 induction m with
 | pure a=>intro p s h1 h2;rw[wp] at h1 h2;exact .inl ⟨a,p,s,h1,h2⟩
 | raise e=>intro p s h1 h2;rw[wp] at h1 h2;exact .inr ⟨e,p,s,h1,h2⟩
 | unsupported=>intro p s h1 h2;rw[wp] at h1;exact h1.elim
 | finish=>intro p s h1 h2;rw[wp] at h1;exact h1.elim
 | rule _ k ih=>intro p s h1 h2;rw[wp] at h1 h2;exact ih () h1 h2
 | «at» p' k ih=>intro p s h1 h2;rw[wp] at h1 h2;exact ih () h1 h2
 | load a _ k ih=>
  intro p s h1 h2;rw[wp] at h1 h2
  obtain ⟨o,e1,h1⟩:=h1
  obtain ⟨o',e2,h2⟩:=h2
  rw[e1] at e2;cases e2
  exact ih o h1 h2
 | update a _ f k ih=>intro p s h1 h2;rw[wp] at h1 h2;exact ih () h1.2 h2.2
 | loadIfAlive a k ih=>intro p s h1 h2;rw[wp] at h1 h2;exact ih _ h1 h2
 | point _ k ih=>intro p s h1 h2;rw[wp] at h1 h2;exact ih () h1 h2
 | register=>intro p s h1 h2;rw[wp] at h1;exact h1.elim
 | alloc o k ih=>intro p s h1 h2;rw[wp] at h1 h2;exact ih _ h1 h2
 | fresh k ih=>intro p s h1 h2;rw[wp] at h1 h2;exact ih _ h1 h2
 | ask k ih=>intro p s h1 h2;rw[wp] at h1 h2;exact ih _ h1 h2
 | choose src n k ih=>intro p s h1 h2;rw[wp] at h1 h2;exact ih _ h1.2 h2.2
 | os q _ k ih=>intro p s h1 h2;rw[wp] at h1 h2;exact ih _ h1 h2
 | call c h g l k ih=>
  intro p s h1 h2;rw[wp] at h1 h2
  obtain ⟨r1,s1,a1,h1⟩:=h1
  obtain ⟨r2,s2,a2,h2⟩:=h2
  obtain ⟨e1,rfl⟩:=Runs.det a1 a2
  cases e1
  exact ih _ h1 h2
 | handled own k ih=>intro p s h1 h2;rw[wp] at h1 h2;exact ih _ h1 h2
 | genState g k ih=>
  intro p s h1 h2;rw[wp] at h1 h2
  obtain ⟨o,e1,h1⟩:=h1
  obtain ⟨o',e2,h2⟩:=h2
  rw[e1] at e2;cases e2
  exact ih _ h1 h2
 | newGen c k ih=>intro p s h1 h2;rw[wp] at h1 h2;exact ih _ h1 h2
 | resume g r l k ih=>
  intro p s h1 h2;rw[wp] at h1 h2
  obtain ⟨r1,s1,a1,h1⟩:=h1
  obtain ⟨r2,s2,a2,h2⟩:=h2
  obtain ⟨rfl,rfl⟩:=a1.det a2
  exact ih _ h1 h2
 | yield=>intro p s h1 h2;rw[wp] at h1;exact h1.elim
 | stack k ih=>intro p s h1 h2;rw[wp] at h1 h2;exact ih _ h1 h2
 | fork=>intro p s h1 h2;rw[wp] at h1;exact h1.elim
 | thread k ih=>intro p s h1 h2;rw[wp] at h1 h2;exact ih _ h1 h2
 | await=>intro p s h1 h2;rw[wp] at h1;exact h1.elim
end Sem
end PySem
end
section
namespace Nest
open PySem PyProof.Rows PySem.W Srt
noncomputable def fl (k:NK):List Int:=k.1++k.2
noncomputable def itI (l:List Int):List (Int ⊕ List Nat):=l.map Sum.inl
theorem Zaz:∀ (l m:List Int),PyProof.Rows.lexLt itemOrd (itI l) (itI m)=HT.lexLt l m
 | [],[]=>rfl
 | [],_::_=>rfl
 | _::_,[]=>rfl
 | x::l,y::m=>by
  show PyProof.Rows.lexLt itemOrd (Sum.inl x::itI l) (Sum.inl y::itI m)=_
  rw[HT.Uy]
  by_cases e:x=y
  ·subst e
   rw[lex_self,if_pos rfl,Zaz l m]
  ·rw[lex_diff (fun z=>e (Sum.inl.inj z)),if_neg e]
   rfl
theorem Z1o:∀ l:List Int,HT.lexLt l l=false
 | []=>rfl
 | x::l=>by rw[HT.Uy,if_pos rfl,Z1o l]
section
variable {prog:Program} {w:World} {A:Around} {E:Value→Shared→Prop} {s:Shared}
theorem IsTupleKey.ints {h:Heap} {ks:List Int} {a:Addr} (x:IsTupleKey (PySem.intKind prog w) h ks a):∃ items:Array Value,IsTup h a items∧IntsAre items.toList ks:=by
 obtain ⟨o,items,n,ho,hc,hd,hi⟩:=x
 refine ⟨items,⟨o,ho,hc,n,hd⟩,?_⟩
 have go:∀ {ks:List Int} {vs:List Value},ItemsAre (PySem.intKind prog w) ks vs→IntsAre vs ks:=by
  intro ks vs q
  induction q with
  | nil=>exact .nil
  | cons h1 _ ih=>
   obtain ⟨t,rfl⟩:=Value.isInt_shape h1
   exact .cons _ t ih
 exact go hi
theorem Zbt {Q:Bool→Shared→Prop} (hu:A.units+64<cLine) {d e:Addr} {u v:List Int} (i2:IsTupleKey (PySem.intKind prog w) s.heap u d) (j2:IsTupleKey (PySem.intKind prog w) s.heap v e) :
  ∀ (as bs:List Int) (ps qs:List Value) (i:Nat),ItemsAre (PySem.intKind prog w) as ps→ItemsAre (PySem.intKind prog w) bs qs→as.length=bs.length→0<i+as.length→Q (HT.lexLt (as++u) (bs++v)) s →
   KatLex prog w A true false Q ((ps++[Value.ref d]).zip (qs++[Value.ref e])) i s
 | [],[],_,_,i,.nil,.nil,_,hi,h=>by
  show KatLex prog w A true false Q ((Value.ref d,Value.ref e)::[]) i s
  refine kat_cons (wpAny_eqBool_tuple (knd:=PySem.intKind prog w) (by omega) i2 j2 ?_)
  refine kat_go (fun q=>kat_yes (kat_nil ?_)) (fun q=>kat_no ?_)
  ·have q:=of_decide_eq_true q
   subst q
   have h':Q (HT.lexLt u u) s:=h
   rw[Z1o] at h'
   exact h'
  ·have e0:(true&&i==0)=false:=by
    have:i≠0:=by simp at hi;omega
    simp[this]
   rw[e0]
   obtain ⟨xs,t1,n1⟩:=IsTupleKey.ints i2
   obtain ⟨ys,t2,n2⟩:=IsTupleKey.ints j2
   exact kat_one _ _ (HT.Z71 t1 t2 n1 n2 (by omega) h)
 | a::as,b::bs,p::ps,q::qs,i,.cons h1 r1,.cons h2 r2,hl,hi,h=>by
  obtain ⟨t,rfl⟩:=Value.isInt_shape h1
  obtain ⟨t',rfl⟩:=Value.isInt_shape h2
  show KatLex prog w A true false Q ((Value.int a t,Value.int b t')::(ps++[Value.ref d]).zip (qs++[Value.ref e])) i s
  refine kat_cons (wpAny_eqBool_int ?_)
  have h':Q (if a=b then HT.lexLt (as++u) (bs++v) else decide (a<b)) s:=h
  refine kat_go (fun q=>kat_yes ?_) (fun q=>kat_no ?_)
  ·have q:a=b:=by simpa using q
   rw[if_pos q] at h'
   exact Zbt hu i2 j2 as bs ps qs (i+1) r1 r2 (by simpa using hl) (by omega) h'
  ·have q:¬ a=b:=by simpa using q
   rw[if_neg q] at h'
   exact oneLt_any_int h'
theorem nest_lt {Q:Bool→Shared→Prop} (hu:A.units+64<cLine) {x y:NK} {a b:Addr} (hx:At s.heap x a) (hy:At s.heap y b) (hl:x.1.length=y.1.length) (hp:0<x.1.length) (h:Q (HT.lexLt (fl x) (fl y)) s) :
  wpAny (model prog w) A (keyLt' (tuples' true) (.ref a) (.ref b)) Q E s:=by
 obtain ⟨o,items,n,vs,d,ho,_,hd,hi,i1,i2⟩:=At.inner (prog:=prog) (w:=w) hx
 obtain ⟨o',items',n',vs',d',ho',_,hd',hi',j1,j2⟩:=At.inner (prog:=prog) (w:=w) hy
 have e1:=i1.length
 have e2:=j1.length
 have f1:items.size=vs.length+1:=by rw[← Array.length_toList,hi];simp
 have f2:items'.size=vs'.length+1:=by rw[← Array.length_toList,hi'];simp
 refine kat_lt ho hd ho' hd' ?_
 rw[hi,hi',show decide (items.size<items'.size)=false from decide_eq_false (by omega)]
 exact Zbt hu i2 j2 x.1 y.1 vs vs' 0 i1 j1 hl (by omega) h
open Classical in
noncomputable def kOf (h:Heap) (a:Addr):NK:=if q:∃ k,At h k a then Classical.choose q else ([],[])
theorem Wq {h:Heap} {k:NK} {a:Addr} (x:At h k a):kOf h a=k:=by
 have q:∃ k,At h k a:=⟨k,x⟩
 unfold kOf
 rw[dif_pos q]
 exact (Classical.choose_spec q).inj x
noncomputable def tO (l:List Int):Obj:=seqObj "tuple" (l.map fun n=>Value.int n 0).toArray 0
def flatH (g:Addr→List Int) (as:List Addr) (h:Heap):Heap:=as.foldl (fun h a=>h.update a fun _=>tO (g a)) h
theorem Z77 {g:Addr→List Int} {a:Addr}:∀ {as:List Addr} {h:Heap},h.get? a=some (tO (g a))→(flatH g as h).get? a=some (tO (g a))
 | [],h,e=>e
 | b::as,h,e=>by
  show (flatH g as (h.update b fun _=>tO (g b))).get? a=some (tO (g a))
  refine Z77 ?_
  by_cases q:a=b
  ·subst q
   exact Heap.get?_update_self _ e rfl
  ·rw[Heap.get?_update_ne _ _ _ _ q]
   exact e
theorem Z9n {g:Addr→List Int} {a:Addr}:∀ {as:List Addr} {h:Heap},a∈as→(∃ o,h.get? a=some o)→(flatH g as h).get? a=some (tO (g a))
 | [],_,hm,_=>nomatch hm
 | b::as,h,hm,⟨o,e⟩=>by
  show (flatH g as (h.update b fun _=>tO (g b))).get? a=some (tO (g a))
  by_cases q:a=b
  ·subst q
   exact Z77 (Heap.get?_update_self _ e rfl)
  ·refine Z9n ?_ ⟨o,?_⟩
   ·rcases List.mem_cons.mp hm with z | z
    ·exact absurd z q
    ·exact z
   ·rw[Heap.get?_update_ne _ _ _ _ q]
    exact e
noncomputable def sh0:Nat→Bool:=fun _=>false
theorem Z9k:∀ (l:List Int) (i:Nat),tupItems sh0 i (l.map fun n=>Value.int n 0)=some (itI l)
 | [],_=>by simp[tupItems,itI]
 | x::l,i=>by
  show (if sh0 i=true then none else (tupItems sh0 (i+1) (l.map fun n=>Value.int n 0)).map (Sum.inl x::·))=some (itI (x::l))
  rw[if_neg (by simp[sh0]),Z9k l (i+1)]
  rfl
theorem key_tO {h:Heap} {a:Addr} {l:List Int} (e:h.get? a=some (tO l)):G.tupKeyC h sh0 (.ref a)=some (itI l):=by
 unfold G.tupKeyC
 rw[if_pos (by simp[G.isTupObj,e,tO,seqObj])]
 show tupKey h sh0 (.ref a)=some (itI l)
 simp only[tupKey,e,tO,seqObj]
 exact Z9k l 0
noncomputable def adr:Keyed→Addr
 | (.ref a,_)=>a
 | _=>0
theorem Z6v (as:List Addr):(pairsOf (as.map Value.ref)).toList=as.map fun a=>(Value.ref a,Value.ref a):=by
 rw[pairsOf_toList]
 induction as with
 | nil=>rfl
 | cons a as ih=>simp[ih]
theorem Zek {A:Around} {Γ:Ctx} {M:Model} {kd:SortKind} {s2:Shared} {x y:Value} {b:Bool} (hΓ:Γ.In A) (h:∀ (Q:Bool→Shared→Prop) (E:Value→Shared→Prop),Q b s2→wpAny M A (keyLt' kd x y) Q E s2):SaysOnly M Γ kd s2 x y b:=by
 intro R E p hw
 have h1:=Says.of hΓ h
 have h2:=h1 (fun r _ s'=>r=.ok b∧s'=s2) (fun _ _ _=>False) p (fun _=>⟨rfl,rfl⟩)
 rcases Sem.wp_both _ hw h2 with ⟨a,p',s',q1,q2,q3⟩ | ⟨_,_,_,_,q⟩
 ·subst q2 q3
  exact ⟨p',q1⟩
 ·exact q.elim
theorem Zf7 (hu:A.units+64<cLine) {as:List Addr} (hk:∀ a∈as,∃ k:NK,At s.heap k a∧k.1.length=4) (h2:2≤as.length) {Q:Unit→SortSt→Prop}
  (h:∀ (st':SortSt) (out:List Addr),out.Perm as→out.Pairwise (fun a b=>HT.lexLt (fl (kOf s.heap b)) (fl (kOf s.heap a))=false)→failedOf st'=none→(arrOf st').map (·.2)=(out.map Value.ref).toArray→Q () st') :
  wpS (model prog w) A E s sortRuns' Q (SortSt.mk' (tuples' true) (pairsOf (as.map Value.ref)) #[] 7 none):=by
 let g:Addr→List Int:=fun a=>fl (kOf s.heap a)
 let h2p:Heap:=flatH g as s.heap
 let s2:Shared:={ s with heap:=h2p }
 have live:∀ a∈as,∃ o,s.heap.get? a=some o:=fun a ha=>by
  obtain ⟨k,⟨vs,d,ws,⟨o,_,_,e,_⟩,_⟩,_⟩:=hk a ha
  exact ⟨o,e⟩
 have at2:∀ a∈as,G.tupKeyC h2p sh0 (.ref a)=some (itI (g a)):=fun a ha=>key_tO (Z9n ha (live a ha))
 have lt2:G.LtAt prog w s2 (G.tupKindC h2p sh0) (tuples' true):=G.tupC_ltAt true (G.KeepsTups.refl _)
 have keys:KeysOf (G.tupKindC h2p sh0) (pairsOf (as.map Value.ref)):=G.tupKeys fun v hv=>by
  obtain ⟨a,ha,rfl⟩:=List.mem_map.mp hv
  exact ⟨_,at2 a ha⟩
 let Dom:Value→Prop:=fun v=>∃ a∈as,v=.ref a
 have gs:GS (tuples' true) Dom (SortSt.mk' (tuples' true) (pairsOf (as.map Value.ref)) #[] 7 none):=by
  refine ⟨rfl,fun p hp=>?_⟩
  have hp:p∈(pairsOf (as.map Value.ref)).toList:=hp
  rw[Z6v] at hp
  obtain ⟨a,ha,rfl⟩:=List.mem_map.mp hp
  exact ⟨a,ha,rfl⟩
 have run2:=G.wpS_sortRunsSt (prog:=prog) (w:=w) (A:=A) (E:=fun _ _=>False) (s:=s2) (κ:=G.tupKindC h2p sh0) (kd:=tuples' true) (a₀:=pairsOf (as.map Value.ref)) (st:=SortSt.mk' (tuples' true) (pairsOf (as.map Value.ref)) #[] 7 none)
  (Q:=fun _ st'=>(arrOf st').Perm (pairsOf (as.map Value.ref))∧failedOf st'=none∧SortedToK (G.tupKindC h2p sh0) (arrOf st') (pairsOf (as.map Value.ref)).size)
  lt2 keys ⟨Array.Perm.refl _,rfl,rfl⟩ rfl (Stable.refl _) (by rw[pairsOf_size,List.length_map];exact h2) fun st' a1 a2 a3 a4=>⟨a1,a2,a3⟩
 have both:=AskS.run (M:=model prog w) (A:=A) (E:=E) (s:=s) (Z9x gs) (fun Γ hΓ x y hx hy=>?_) run2
 ·refine wpS_mono both ?_
  rintro ⟨⟩ st' ⟨_,hp,hf,hs⟩
  have hpl:(arrOf st').toList.Perm (as.map fun a=>(Value.ref a,Value.ref a)):=by
   rw[← Z6v]
   exact Array.perm_iff_toList_perm.mp hp
  have hpa:((arrOf st').toList.map adr).Perm as:=by
   have:=hpl.map adr
   rwa [List.map_map,show (adr∘fun a=>(Value.ref a,Value.ref a))=id from rfl,List.map_id] at this
  have hback:(arrOf st').toList=((arrOf st').toList.map adr).map fun a=>(Value.ref a,Value.ref a):=by
   rw[List.map_map]
   refine (List.map_id' ..).symm.trans (List.map_congr_left fun p hp'=>?_) |>.trans rfl
   have:=hpl.mem_iff.mp hp'
   obtain ⟨a,_,rfl⟩:=List.mem_map.mp this
   rfl
  refine h st' ((arrOf st').toList.map adr) hpa ?_ hf ?_
  ·rw[List.pairwise_iff_getElem]
   intro i j hi hj hij
   have hsz:(pairsOf (as.map Value.ref)).size=(arrOf st').size:=hp.size_eq.symm
   have hj':j<(arrOf st').size:=by simpa using hj
   have hi':i<(arrOf st').size:=by simpa using hi
   have q:=hs i j (by omega) (by rw[hsz];exact hj')
   have kk:∀ n (hn:n<(arrOf st').size),KK (G.tupKindC h2p sh0) (arrOf st') n=itI (g (adr ((arrOf st').toList[n]'(by simpa using hn)))):=by
    intro n hn
    have hm:(arrOf st').toList[n]'(by simpa using hn)∈(arrOf st').toList:=List.getElem_mem _
    obtain ⟨a,ha,e⟩:=List.mem_map.mp (hpl.mem_iff.mp hm)
    unfold KK
    rw[show (arrOf st')[n]?=some ((arrOf st').toList[n]'(by simpa using hn)) by simp[hn]]
    rw[← e]
    show (G.tupKeyC h2p sh0 (.ref a)).getD []=itI (g a)
    rw[at2 a ha]
    rfl
   rw[kk i hi',kk j hj'] at q
   have q2:PyProof.Rows.lexLt itemOrd (itI (g (adr ((arrOf st').toList[j]'(by simpa using hj'))))) (itI (g (adr ((arrOf st').toList[i]'(by simpa using hi')))))=false:=q
   rw[Zaz] at q2
   simpa using q2
  ·apply Array.ext'
   rw[Array.toList_map]
   conv=>lhs;rw[hback]
   simp[Function.comp_def]
 ·obtain ⟨a,ha,rfl⟩:=hx
  obtain ⟨b,hb,rfl⟩:=hy
  obtain ⟨k1,q1,l1⟩:=hk a ha
  obtain ⟨k2,q2,l2⟩:=hk b hb
  refine ⟨HT.lexLt (fl k1) (fl k2),Says.of hΓ fun Q E hq=>nest_lt hu q1 q2 (by omega) (by omega) hq,Zek hΓ fun Q E hq=>?_⟩
  refine lt2 A E _ _ _ _ (at2 a ha) (at2 b hb) ?_
  show Q (PyProof.Rows.lexLt itemOrd (itI (g a)) (itI (g b))) s2
  rw[Zaz,show g a=fl k1 from congrArg fl (Wq q1),show g b=fl k2 from congrArg fl (Wq q2)]
  exact hq
end
end Nest
end
section
namespace L2
open PySem PySem.Spec PyProof.Rows PySem.W
section
variable {prog:Program} {w:World} {A:Around} {E:Value→Shared→Prop} {s:Shared}
theorem Ze0 (hh:A.handled=none) (I d:Addr) (hne:d≠I) {o:Obj} {es:Array DictEntry} {ep:Nat} (hd:o.data=.dict es ep) :
  Walks prog w A I [I,d] [I] es.size (fun i v=>∃ en,es[i]?=some en∧v=en.key) (fun i h=>h.IsKeyIter I d i es.size ep∧h.get? d=some o) where
 sub:=fun b hb=>by simp at hb;simp[hb]
 frame:=fun _ _ _ st hk=>⟨st.1.at fun o e=>hk I (by simp) o e,hk d (by simp) o st.2⟩
 item:=fun i s Q E hi st hQ=>by
  have hen:es[i]?=some es[i]:=by simp[hi]
  refine We st.1 st.2 hd rfl hen fun h' hit' hs'=>?_
  exact hQ _ h' s.toks ⟨_,hen,rfl⟩ ⟨hit',(hs'.2 d hne).trans st.2⟩ fun b o hb e=>hs'.extBut b o (fun h=>hb (by simp[h])) e
 done:=fun s Q E st hQ=>Ue hh st.1 st.2 hd rfl (Nat.le_refl _) fun h' he'=>hQ h' s.toks fun b o hb e=>he' b o (fun h=>hb (by simp[h])) e
 self:=fun i s Q E st hQ=>by
  refine wpAny_pyIter_slot st.1.typeIs F.slot_dict_keyiterator_iter (wpAny_call_entry F.slot_dict_keyiterator_iter st.1.typeIs F.entry_dict_keyiterator_iter ?_ (F.args_dict_keyiterator_iter_1 _))
  show wpAny _ _ (ret (.ref I)) _ _ s
  exact wpAny_pure ⟨_,rfl, "dict_keyiterator",_,st.1.typeIs,F.slot_dict_keyiterator_next.lookup,hQ⟩
theorem src_raw {d:Addr} {o:Obj} {es:Array DictEntry} {ep:Nat} (lo:(d==sysModules)=false) (hx:o.ExactDict) (hd:o.data=.dict es ep) :
  KdlSrc prog w "dict" d d es.size (fun i v=>∃ en,es[i]?=some en∧v=en.key) (fun h=>h.get? d=some o) where
 type:=fun _ hm=>⟨o,hm,hx.1⟩
 there:=fun _ hm=>⟨Heap.lt_size hm,Heap.lt_size hm⟩
 keep:=fun _ _ hm hk=>hk d (.inl rfl) o hm
 notList:=by decide
 notTuple:=by decide
 hint:=fun _ _ _ _ hm hq=>kdl_hint_dict ⟨o,hm,hx.1⟩ hq
 iter:=fun _ _ hh hm=>⟨_,_,(fun _ _ hq=>Z2a lo hm hx hd hq),Ze0 hh _ d (Nat.ne_of_lt (Heap.lt_size hm)) hd,⟨⟨_,Heap.get?_push_size _ rfl,rfl,rfl⟩,Heap.get?_push_of_some _ hm⟩⟩
theorem Z5i {T:String} {r d:Addr} {n:Nat} {P:Nat→Value→Prop} {OK:Heap→Prop} {Q:List Value→Shared→Prop} (K:KdlSrc prog w T r d n P OK) (hh:A.handled=none) (hok:OK s.heap) (hn:n≤sizeLine)
  (h:∀ h' tk acc',(∀ b o,s.heap.get? b=some o→h'.get? b=some o)→s.heap.objs.size<h'.objs.size→ItemsOf P acc' n→Q acc'.toList { s with heap:=h',toks:=tk }):wpAny (model prog w) A (collect (.ref r)) Q E s:=by
 have hlt:=K.there _ hok
 unfold collect
 refine wpAny_bind (wpAny_runValue (codeAny_builtin F.entry_proto_collect ?_))
 rw[Around.under_plainId F.plain_proto_collect _]
 show wpAny _ A.in1 (newList [] >>= fun l=>again (.builtin "list.__iadd__" ⟨[l,.ref r],[]⟩)) _ _ s
 refine wpAny_bind (wpAny_newObj_type ?_)
 refine wpAny_pure ⟨plainId_quiet F.plain_list_iadd _,codeAny_builtin F.entry_list_iadd ?_⟩
 rw[Around.under_plainId F.plain_list_iadd _]
 have hS:(s.heap.push { cls:=.type "list",data:=.seq ([]:List Value).toArray }).get? s.heap.objs.size=some { cls:=.type "list",data:=.seq ([]:List Value).toArray }:=Heap.get?_push_size _ rfl
 show wpAny _ A.in1 (Builtin.List.listExtendWith (.ref s.heap.objs.size) (.ref r) (.ref s.heap.objs.size)) _ _ _
 have key:=kdl_extend (A:=A) (R:=fun q s'=>q=.ok (.ret (.ref s.heap.objs.size))∧wpAny (model prog w) A (load s.heap.objs.size >>= fun o=>match o.data with
   | .seq xs _=>pure xs.toList
   | _=>unsupported "internal:collect") Q E s') (s:={ s with heap:=s.heap.push { cls:=.type "list",data:=.seq ([]:List Value).toArray } }) K hh (K.keep _ _ hok fun b _ o e=>Heap.get?_push_of_some _ e) s.heap.objs.size (Nat.ne_of_gt hlt.1) (Nat.ne_of_gt hlt.2) (.ref s.heap.objs.size) _ hS
  (fun h' tk acc' c' hk hS' hacc=>⟨rfl,wpAny_bind (wpAny_load hS' (wpAny_pure (h h' tk acc' (fun b o e=>hk b o (Nat.ne_of_lt (Heap.lt_size e)) (Heap.get?_push_of_some _ e)) (Heap.lt_size hS') hacc)))⟩) hn
 refine wpAny_mono key (fun fin s' q=>?_) fun e s' q=>nomatch q.1
 cases fin with
 | done f=>
  obtain ⟨e,q⟩:=q
  cases e
  exact q
 | again c=>
  refine ⟨q.1,codeAny_mono q.2 fun r s' q=>?_⟩
  obtain ⟨e,q⟩:=q
  subst e
  exact q
theorem Wp {α:Type}:∀ l:List α,(l.zip l).map (fun x=>x.2)=l
 | []=>rfl
 | a::l=>by simp[Wp l]
theorem Z67 {a:Addr} {as:List Addr} {n:Nat} {P:Fin→Shared→Prop} (hu:A.units+64<cLine) (ho:s.heap.get? a=some (seqObj "list" (as.map Value.ref).toArray n))
  (hk:∀ b∈as,∃ k:Nest.NK,Nest.At s.heap k b∧k.1.length=4) (hL:as.length≤sizeLine)
  (h:∀ out:List Addr,out.Perm as→out.Pairwise (fun a b=>HT.lexLt (Nest.fl (Nest.kOf s.heap b)) (Nest.fl (Nest.kOf s.heap a))=false)→P (.done (.ret .none)) { s with heap:=sortedHeap s.heap a (as.map Value.ref) (out.map Value.ref).toArray }) :
  wpAny (model prog w) A (Builtin.«list.sort» ⟨[.ref a],[]⟩) P E s:=by
 have hL2:(as.map Value.ref).length≤16777216:=by rw[List.length_map,← sizeLine_eq];exact hL
 generalize hvs:as.map Value.ref=vs at *
 have hlen:vs.length=as.length:=by rw[← hvs,List.length_map]
 have k6:=G.keeps_sort6 (vs:=vs) ho
 have keep:∀ b∈as,∀ k:Nest.NK,Nest.At s.heap k b→Nest.At (G.sortHeap6 s.heap a vs) k b:=by
  intro b _ k ⟨us,d,ws,⟨o,it,m,e1,e2,e3,e4⟩,i1,⟨o',it',m',f1,f2,f3,f4⟩,i2⟩
  exact ⟨us,d,ws,⟨o,it,m,k6 b o e1 e2,e2,e3,e4⟩,i1,⟨o',it',m',k6 d o' f1 f2,f2,f3,f4⟩,i2⟩
 have same:∀ b∈as,Nest.kOf (G.sortHeap6 s.heap a vs) b=Nest.kOf s.heap b:=by
  intro b hb
  obtain ⟨k,q,_⟩:=hk b hb
  rw[Nest.Wq q,Nest.Wq (keep b hb k q)]
 rw[list_sort_plain]
 have ha:a<s.heap.objs.size:=Heap.lt_size ho
 refine wpAny_bind (listItems_at ho rfl ?_);refine wpAny_bind (listUpdate_at ho rfl ?_)
 obtain ⟨e1,ho1⟩:∃ e1,(s.heap.update a (Obj.mapSeq fun _=>#[])).get? a=some (seqObj "list" #[] e1):=⟨_,get?_update_seq ho (fun _=>#[])⟩
 refine wpAny_bind (seqEpoch_at ho1 rfl ?_);refine wpAny_bind (wpAny_newTuple ?_);refine wpAny_bind (wpAny_newList ?_);refine wpAny_holding ?_
 have ho6:(G.sortHeap6 s.heap a vs).get? a=some (seqObj "list" #[] e1):=by
  unfold G.sortHeap6
  rw[Heap.get?_push_ne _ _ _ (by rw[size_push',Heap.size_update];exact Nat.ne_of_lt (Nat.lt_succ_of_lt ha)),Heap.get?_push_ne _ _ _ (by rw[Heap.size_update];exact Nat.ne_of_lt ha)];exact ho1
 show wpAny (model prog w) A _ P E { s with heap:=G.sortHeap6 s.heap a vs }
 dsimp only
 have hsz:vs.toArray.size=vs.length:=by simp
 by_cases h2:vs.toArray.size<2
 ·rw[if_pos h2,if_pos h2]
  refine wpAny_bind (wpAny_pure ?_);rw[StateT.run_pure];refine wpAny_bind (wpAny_pure ?_);dsimp only
  have e0:(arrOf (SortSt.mk' general' (vs.toArray.zip vs.toArray) #[] 7 none)).map (·.2)=(as.map Value.ref).toArray:=by
   show (vs.toArray.zip vs.toArray).map (·.2)=_
   apply Array.ext'
   rw[hvs]
   simp only[Array.toList_map,Array.toList_zip,List.toList_toArray]
   exact Wp vs
  refine wpAny_bind (seqEpoch_at ho6 rfl ?_)
  refine wpAny_bind (listUpdate_at ho6 rfl ?_ (hsz2:=by rw[Array.size_map];show (pairsOf vs).size≤_;rw[pairsOf_size,sizeLine_eq];omega))
  simp only[bne_self_eq_false,Bool.false_eq_true,if_false]
  refine wpAny_pure ?_
  have hP:=h as (List.Perm.refl _) (by
   have l1:as.length<2:=by omega
   match as,l1 with
   | [],_=>exact List.Pairwise.nil
   | [_],_=>exact List.pairwise_singleton _ _)
  have e0':(vs.toArray.zip vs.toArray).map (·.2)=(as.map Value.ref).toArray:=e0
  show P (.done (.ret .none)) { s with heap:=sortedHeap s.heap a vs ((vs.toArray.zip vs.toArray).map (·.2)) }
  rw[e0']
  exact hP
 ·rw[if_neg h2,if_neg h2]
  have kinds:∀ (bs:List Addr),(∀ b∈bs,b∈as)→∃ fs:List Value,fs.length=bs.length∧TupsOf (G.sortHeap6 s.heap a vs) Nest.sh0 (bs.map Value.ref) fs:=by
   intro bs
   induction bs with
   | nil=>intro _;exact ⟨[],rfl,.nil⟩
   | cons b bs ih=>
    intro hb
    obtain ⟨fs,l,t⟩:=ih fun c hc=>hb c (List.mem_cons_of_mem _ hc)
    obtain ⟨k,q,l4⟩:=hk b (hb b List.mem_cons_self)
    obtain ⟨us,d,ws,⟨o,it,m,f1,f2,f3,f4⟩,i1,_⟩:=keep b (hb b List.mem_cons_self) k q
    obtain ⟨k1,k2⟩:=k
    have l4:k1.length=4:=l4
    have i1:IntsAre us k1:=i1
    cases i1 with
    | nil=>simp at l4
    | cons x t0 rest=>
     refine ⟨Value.int x t0::fs,by simp[l],.cons ⟨b,o,it,m,rfl,f1,f2,f3,?_,fun _=>⟨x,t0,rfl⟩,fun z=>absurd z (by simp[Nest.sh0])⟩ t⟩
     rw[← Array.getElem?_toList,f4]
     rfl
  obtain ⟨fs,lf,tf⟩:=kinds as fun _ hb=>hb
  rw[hvs] at tf
  refine wpAny_bind (tup_kind (s:={ s with heap:=G.sortHeap6 s.heap a vs }) (by omega) tf ?_)
  try dsimp only
  have run:=Nest.Zf7 (prog:=prog) (w:=w) (A:=A) (E:=E) (s:={ s with heap:=G.sortHeap6 s.heap a vs }) hu (as:=as) (fun b hb=>let ⟨k,q,l⟩:=hk b hb;⟨k,keep b hb k q,l⟩) (by omega)
   (Q:=fun _ st'=>∃ out:List Addr,out.Perm as∧out.Pairwise (fun x y=>HT.lexLt (Nest.fl (Nest.kOf s.heap y)) (Nest.fl (Nest.kOf s.heap x))=false)∧failedOf st'=none∧(arrOf st').map (·.2)=(out.map Value.ref).toArray)
   fun st' out o1 o2 o3 o4=>⟨out,o1,o2.imp_of_mem fun {x y} hx hy q=>by
    rw[← same x (o1.mem_iff.mp hx),← same y (o1.mem_iff.mp hy)];exact q,o3,o4⟩
  rw[hvs] at run
  refine wpAny_bind (wpAny_mono run ?_ fun _ _ e=>e)
  rintro ⟨⟨⟩,st'⟩ s' ⟨rfl,out,hp,hs,hf,ho⟩
  dsimp only
  have ho':(arrOf st').map (fun x=>x.2)=(out.map Value.ref).toArray:=ho
  refine wpAny_bind (seqEpoch_at ho6 rfl ?_)
  refine wpAny_bind (listUpdate_at ho6 rfl ?_ (hsz2:=by rw[ho',List.size_toArray,List.length_map,hp.length_eq,sizeLine_eq];omega))
  rw[hf]
  simp only[bne_self_eq_false,Bool.false_eq_true,if_false]
  refine wpAny_pure ?_
  have hP:=h out hp hs
  show P (.done (.ret .none)) { s with heap:=sortedHeap s.heap a vs ((arrOf st').map (fun x=>x.2)) }
  rw[ho']
  exact hP
theorem Zaw {T:String} {r d:Addr} {n:Nat} {Pr:Nat→Value→Prop} {OK:Heap→Prop} {as:List Addr} {Q:Value→Shared→Prop} (K:KdlSrc prog w T r d n Pr OK) (hh:A.handled=none) (hok:OK s.heap) (hn:n=as.length) (hP:∀ i v,Pr i v→(as.map Value.ref)[i]?=some v)
  (hu:A.units+96<cLine) (hk:∀ b∈as,∃ k:Nest.NK,Nest.At s.heap k b∧k.1.length=4) (hL:as.length≤sizeLine)
  (h:∀ (h':Heap) (tk p ep:Nat) (out:List Addr),(∀ b o,s.heap.get? b=some o→h'.get? b=some o)→s.heap.objs.size≤p→h'.get? p=some (seqObj "list" (out.map Value.ref).toArray ep)→out.Perm as →
   out.Pairwise (fun x y=>HT.lexLt (Nest.fl (Nest.kOf s.heap y)) (Nest.fl (Nest.kOf s.heap x))=false)→Q (.ref p) { s with heap:=h',toks:=tk }) :
  wpAny (model prog w) A (call (.builtin "sorted") [.ref r]) Q E s:=by
 refine Calls.call_function_entry kind_sorted plain_sorted entry_sorted (args_sorted1 _) ?_
 unfold Builtin.«sorted»
 refine wpAny_bind (m:=checkCount "sorted" 1 1 _) (wpAny_pure ?_)
 refine wpAny_bind (Z5i K hh hok (by omega) fun h1 tk acc keep hsz1 items=>?_)
 have eacc:acc.toList=as.map Value.ref:=by
  apply List.ext_getElem?
  intro i
  cases q:acc.toList[i]? with
  | none=>
   have l1:=items.1
   have:acc.toList.length≤i:=List.getElem?_eq_none_iff.mp q
   symm
   rw[List.getElem?_eq_none_iff,List.length_map]
   simp at this
   omega
  | some v=>exact (hP i v (items.2 i v (by rw[← Array.getElem?_toList];exact q))).symm
 rw[eacc]
 refine wpAny_bind (wpAny_newList ?_)
 have hoL:(h1.push (seqObj "list" (as.map Value.ref).toArray 0)).get? h1.objs.size=some (seqObj "list" (as.map Value.ref).toArray 0):=Heap.get?_push_size _ rfl
 have keep2:∀ b o,s.heap.get? b=some o→(h1.push (seqObj "list" (as.map Value.ref).toArray 0)).get? b=some o:=fun b o e=>Heap.get?_push_of_some _ (keep b o e)
 have at2:∀ b∈as,∀ k:Nest.NK,Nest.At s.heap k b→Nest.At (h1.push (seqObj "list" (as.map Value.ref).toArray 0)) k b:=by
  intro b _ k ⟨us,d,ws,⟨o,it,m,e1,e2,e3,e4⟩,i1,⟨o',it',m',f1,f2,f3,f4⟩,i2⟩
  exact ⟨us,d,ws,⟨o,it,m,keep2 b o e1,e2,e3,e4⟩,i1,⟨o',it',m',keep2 d o' f1,f2,f3,f4⟩,i2⟩
 show wpAny _ _ _ _ _ { s with heap:=h1.push (seqObj "list" (as.map Value.ref).toArray 0),toks:=tk }
 refine wpAny_bind (wpAny_holding (wpAny_call_entry slot_list_sort ⟨_,hoL,rfl⟩ entry_list_sort (Z67 (s:={ s with heap:=h1.push (seqObj "list" (as.map Value.ref).toArray 0),toks:=tk }) ?_ hoL (fun b hb=>let ⟨k,q,l⟩:=hk b hb;⟨k,at2 b hb k q,l⟩) hL fun out o1 o2=>⟨_,rfl,?_⟩) (args_list_sort _)))
 ·show A.units+1+1+64<cLine
  omega
 ·refine wpAny_pure ⟨_,rfl,?_⟩
  obtain ⟨ep,e⟩:=sortedHeap_at (vs:=as.map Value.ref) (out:=(out.map Value.ref).toArray) hoL
  refine h _ tk _ ep out (fun b o q=>?_) ?_ e o1 ?_
  ·have q1:=keep b o q
   rw[sortedHeap_old (Nat.ne_of_lt (Heap.lt_size q1)) (Heap.lt_size (keep2 b o q))]
   exact keep2 b o q
  ·exact Nat.le_of_lt hsz1
  ·refine o2.imp_of_mem fun {x y} hx hy q=>?_
   obtain ⟨kx,qx,_⟩:=hk x (o1.mem_iff.mp hx)
   obtain ⟨ky,qy,_⟩:=hk y (o1.mem_iff.mp hy)
   rw[Nest.Wq qx,Nest.Wq qy]
   have q':HT.lexLt (Nest.fl (Nest.kOf (h1.push (seqObj "list" (as.map Value.ref).toArray 0)) y)) (Nest.fl (Nest.kOf (h1.push (seqObj "list" (as.map Value.ref).toArray 0)) x))=false:=q
   rw[Nest.Wq (at2 x (o1.mem_iff.mp hx) kx qx),Nest.Wq (at2 y (o1.mem_iff.mp hy) ky qy)] at q'
   exact q'
theorem Zdi {T:String} {r d:Addr} {n:Nat} {Pr:Nat→Value→Prop} {OK:Heap→Prop} {ns:List Int} {Q:Value→Shared→Prop} (K:KdlSrc prog w T r d n Pr OK) (hh:A.handled=none) (hok:OK s.heap) (hn:n=ns.length) (hP:∀ i v,Pr i v→∃ x t,ns[i]?=some x∧v=Value.int x t)
  (h64:ns.length<64)
  (h:∀ (h':Heap) (tk p ep:Nat) (out:Array Value) (ns':List Int),(∀ b o,s.heap.get? b=some o→h'.get? b=some o)→s.heap.objs.size≤p→h'.get? p=some (seqObj "list" out ep)→IntsAre out.toList ns'→ns'.Perm ns→ns'.Pairwise (·≤·)→Q (.ref p) { s with heap:=h',toks:=tk }) :
  wpAny (model prog w) A (call (.builtin "sorted") [.ref r]) Q E s:=by
 refine Calls.call_function_entry kind_sorted plain_sorted entry_sorted (args_sorted1 _) ?_
 unfold Builtin.«sorted»
 refine wpAny_bind (m:=checkCount "sorted" 1 1 _) (wpAny_pure ?_)
 refine wpAny_bind (Z5i K hh hok (by rw[sizeLine_eq];omega) fun h1 tk acc keep hsz1 items=>?_)
 have go:∀ (vs:List Value) (ms:List Int),vs.length=ms.length→(∀ (i:Nat) (v:Value),vs[i]?=some v→∃ (x:Int) (t:Tok),ms[i]?=some x∧v=Value.int x t)→IntsAre vs ms:=by
  intro vs
  induction vs with
  | nil=>intro ms hl _;cases ms with | nil=>exact .nil | cons _ _=>simp at hl
  | cons v vs ih=>
   intro ms hl hv
   cases ms with
   | nil=>simp at hl
   | cons m ms=>
    obtain ⟨x,t,e1,e2⟩:=hv 0 v rfl
    have e1:m=x:=Option.some.inj e1
    subst e1 e2
    exact .cons m t (ih ms (by simpa using hl) fun i u e=>hv (i+1) u e)
 have hnt:IntsAre acc.toList ns:=go _ _ (by rw[Array.length_toList,items.1,hn]) fun i v e=>hP i v (items.2 i v (by rw[← Array.getElem?_toList];exact e))
 refine wpAny_bind (wpAny_newList ?_)
 have hoL:(h1.push (seqObj "list" acc.toList.toArray 0)).get? h1.objs.size=some (seqObj "list" acc.toList.toArray 0):=Heap.get?_push_size _ rfl
 have keep2:∀ b o,s.heap.get? b=some o→(h1.push (seqObj "list" acc.toList.toArray 0)).get? b=some o:=fun b o e=>Heap.get?_push_of_some _ (keep b o e)
 show wpAny _ _ _ _ _ { s with heap:=h1.push (seqObj "list" acc.toList.toArray 0),toks:=tk }
 refine wpAny_bind (wpAny_holding (wpAny_call_entry slot_list_sort ⟨_,hoL,rfl⟩ entry_list_sort (list_sort_tree (s:={ s with heap:=h1.push (seqObj "list" acc.toList.toArray 0),toks:=tk }) hoL hnt (by rw[hnt.length];exact h64) fun out ns' i1 i2 i3=>⟨_,rfl,?_⟩) (args_list_sort _)))
 refine wpAny_pure ⟨_,rfl,?_⟩
 obtain ⟨ep,e⟩:=sortedHeap_at (vs:=acc.toList) (out:=out) hoL
 refine h _ tk _ ep out ns' (fun b o q=>?_) (Nat.le_of_lt hsz1) e i1 i2 i3
 have q1:=keep b o q
 rw[sortedHeap_old (Nat.ne_of_lt (Heap.lt_size q1)) (Heap.lt_size (keep2 b o q))]
 exact keep2 b o q
end
end L2
end
section
namespace L2
open PySem PySem.Spec PyProof.Rows PySem.W
section
variable {prog:Program} {w:World} {κ:Type} [DecidableEq κ] {knd:HeapKind prog w κ} {A:Around} {E:Value→Shared→Prop} {s:Shared}
theorem Z4b {d a:Addr} {xs:List (κ×Addr×Value)} {k:κ} {v:Value} {Q:Value→Shared→Prop} (hu:knd.room A) (hkey:knd.is s.heap k a) (hm:s.heap.DictOfH knd d xs)
  (h1:∀ p,atKey xs k=some p→Q p.2 { s with toks:=s.toks+knd.draws k })
  (h2:atKey xs k=none→∀ h',h'.DictOfH knd d (xs++[(k,a,v)])→Heap.SameBut d s.heap h'→Q v { s with heap:=h',toks:=s.toks+knd.draws k }) (hsz:xs.length≤sizeLine) :
  wpAny (model prog w) A (dictSetDefault d (.ref a) v) Q E s:=by
 obtain ⟨o,es,ep,ho,hc,hd,he,his,hn⟩:=hm
 unfold dictSetDefault
 try with_reducible refine wpAny_holding ?_
 refine wpAny_bind (knd.pyHash hu hkey (wpAny_bind (wpAny_dictFind_heap (s:={ s with toks:=s.toks+knd.draws k }) hu hkey ho hd he his hn ?_ ?_)))
 ·intro hno
  have hk0:atKey xs k=none:=atKey_none_of_get hno
  have hnot:k ∉ xs.map (·.1):=not_mem_keys_of_get hno
  have en:=storedH_new (v:=v) (a:=a) hk0
  refine wpAny_bind (wpAny_rule (wpAny_bind (wpAny_updateDictKeys (hz:=by have e:=size_of_entries he;omega) (s:={ s with toks:=s.toks+knd.draws k }) ho hd (wpAny_pure (h2 hk0 _ ⟨_,_,ep+1,Heap.get?_update_self _ ho (Obj.isFreed_of_dict (Obj.data_mapDictKeys hd _)),hc.mapDictKeys _,Obj.data_mapDictKeys hd _,?_,?_,?_⟩ (Heap.SameBut.update ..))))))
  ·simp[he,entryOfKey]
  ·intro x hx
   rcases List.mem_append.mp hx with hx | hx
   ·exact knd.keeps (his x hx) ho hd (Heap.SameBut.update ..)
   ·simp only[List.mem_singleton] at hx
    subst hx
    exact knd.keeps hkey ho hd (Heap.SameBut.update ..)
  ·rw[List.map_append,List.nodup_append]
   refine ⟨hn,by simp,?_⟩
   intro x hx y hy
   simp only[List.map_cons,List.map_nil,List.mem_singleton] at hy
   subst hy
   exact fun e=>hnot (e ▸ hx)
 ·intro j p hj
  refine wpAny_bind (wpAny_dictEntries (s:={ s with toks:=s.toks+knd.draws k }) ho hd ?_)
  rw[entry_at he j,hj]
  exact wpAny_bind (wpAny_rule (wpAny_pure (h1 _ (atKey_of_get hn hj))))
theorem Z0y {d a:Addr} {xs:List (κ×Addr×Value)} {k:κ} {v:Value} {Q:Value→Shared→Prop} (lo:(d==sysModules)=false) (hu:knd.room A.in1) (hkey:knd.is s.heap k a) (hm:s.heap.DictOfH knd d xs)
  (h1:∀ p,atKey xs k=some p→Q p.2 { s with toks:=s.toks+knd.draws k })
  (h2:atKey xs k=none→∀ h',h'.DictOfH knd d (xs++[(k,a,v)])→Heap.SameBut d s.heap h'→Q v { s with heap:=h',toks:=s.toks+knd.draws k }) (hsz:xs.length≤sizeLine) :
  wpAny (model prog w) A (call (.builtin "dict.setdefault") [.ref d,.ref a,v]) Q E s:=by
 refine wpAny_call_entry PySem.F.slot_dict_setdefault hm.typeIs PySem.F.entry_dict_setdefault ?_ (PySem.F.args_dict_setdefault_3 _ _ _)
 unfold Builtin.«dict.setdefault»
 refine wpAny_bind ?_
 unfold Builtin.Dict.keyAndDefault
 refine wpAny_bind (wpAny_notOrdered_dict hm.typeIs ?_)
 show wpAny _ _ (pure (d,Value.ref a,some v)) _ _ s
 refine wpAny_pure ?_
 show wpAny _ _ (if (d==sysModules)=true then _ else (dictSetDefault d (.ref a) v >>= _)) _ _ s
 rw[if_neg (by rw[lo];exact Bool.false_ne_true)]
 exact wpAny_bind (Z4b hu hkey hm (fun p hp=>wpAny_pure ⟨p.2,rfl,h1 p hp⟩) (fun hn h' hm' hs'=>wpAny_pure ⟨v,rfl,h2 hn h' hm' hs'⟩) hsz)
theorem Z3i {d:Addr} {o:Obj} {es:Array DictEntry} {ep:Nat} {Q:Value→Shared→Prop} (lo:(d==sysModules)=false) (ho:s.heap.get? d=some o) (hx:o.ExactDict) (hd:o.data=.dict es ep) (hz:es.size≤sizeLine)
  (h:∀ t tk,Q (.int es.size t) { s with toks:=tk }):wpAny (model prog w) A (call (.builtin "len") [.ref d]) Q E s:=by
 have hT:s.TypeIs (.ref d) "dict" := ⟨o,ho,hx.1⟩
 rw[sizeLine_eq] at hz
 refine Calls.call_function_entry kind_len plain_len entry_len (args_len1 _) ?_
 unfold Builtin.«len»
 refine wpAny_bind (m:=oneArg "len" _) (wpAny_pure ?_)
 refine wpAny_bind (m:=callSpecial? (.ref d) (Str.ofString "__len__")) (wpAny_callSpecial?_slot (name:=Str.ofString "__len__") hT F.slot_dict_len (wpAny_call_entry F.slot_dict_len hT F.entry_dict_len ?_ (F.args_dict_len_1 _)))
 show wpAny _ _ (dictSize d >>= _) _ _ s
 unfold dictSize
 refine wpAny_bind (wpAny_bind (wpAny_dictEntries ho hd (wpAny_pure ?_)))
 show wpAny _ _ (Builtin.Dict.pendingCount d >>= _) _ _ s
 refine wpAny_bind (wpAny_pendingCount_other lo ?_)
 refine wpAny_ret_mkInt ?_
 rw[Nat.add_zero]
 refine wpAny_bind (wpAny_holding (wpAny_pure ?_))
 refine wpAny_bind (wpAny_letGo ?_)
 show wpAny _ _ (if ((es.size:Nat):Int)<0 then _ else _) _ _ _
 rw[if_neg (by omega)]
 show wpAny _ _ (if ((es.size:Nat):Int)≥2 ^ 63 then _ else _) _ _ _
 rw[if_neg (by omega)]
 exact wpAny_bind (wpAny_mkInt (wpAny_pure ⟨_,rfl,h _ _⟩))
end
section
open AutoSeq1 (wpAny_loadPart')
theorem Z56 (l:Addr) (items:Array Value) (n:Nat) (b:Addr) (items2:Array Value) (n2:Nat) (dd:Option Addr) (sl:Array (Option Value)) (hs0:¬(!items.isEmpty&&Builtin.List.listTooLong (items.size+items2.size))=true) (hs1:items.size≤sizeLine) (hs2:items.size+items2.size≤sizeLine+1) :
  Meets (Builtin.«list.extend» ⟨[.ref l,.ref b],[]⟩) (fun _ R s=>s.heap.get? l=some { cls:=.type "list",dict:=none,data:=.seq items n,slots:=#[] } ∧
   s.heap.get? b=some { cls:=.type "tuple",dict:=dd,data:=.seq items2 n2,slots:=sl }∧R (.ok (.ret Value.none)) { s with heap:=s.heap.update l (Obj.mapSeq fun x=>x++items2),toks:=s.toks }):=
 .of_wp fun prog w A R s h=>by
  obtain ⟨hp,g,d,tk,os⟩:=s
  obtain ⟨hl,hb,h⟩:=h
  have f1:=AutoSeq1.idx_int
  have f2:=AutoSeq1.sub_tuple_tuple
  have f3:=AutoSeq1.sub_list_list
  have f4:=AutoSeq1.sub_tuple_list
  have f5:=AutoSeq1.sub_list_tuple
  have hz':(items++items2).size≤sizeLine+1:=by rw[Array.size_append];exact hs2
  wp_walk using (wpAny_updateSeq hl rfl (hz:=hs1) (_hz':=hz')),wpAny_loadPart' hl,wpAny_loadPart' hb
  exact ⟨_,rfl,h⟩
end
section
variable {X:Cx}
def rExtendT (K:PySem.W.Frag):V→List V→Hp→VK→Prop:=fun x vs H Q=>∃ l b xs zs,x=.ref l∧vs=[.ref b]∧H l=some (.lst xs)∧SqT K H b zs∧xs.length+zs.length≤sizeLine∧Q .non (upd H l (.lst (xs++zs)))
theorem Z70:MtM X "list.extend" (rExtendT X.K):=by
 intro pins s σ H x vs v us Q I rx rv h
 obtain ⟨l,b,xs,zs,rfl,rfl,hH,hB,hz,q⟩:=h
 cases rx
 obtain ⟨u,rfl,ru⟩:=rv.one
 cases ru
 obtain ⟨z,its,n,r,hl,e⟩:=I.lstM hH
 obtain ⟨its2,r2,⟨⟨cls,dd,data,sl⟩,e2,hc,n2,hd⟩,z2⟩:=I.tuple hB
 simp only at hc hd
 subst hc hd
 have hl1:=r.length
 have hl2:=r2.length
 have hsz:its.toArray.size+its2.toArray.size≤sizeLine:=by rw[List.size_toArray,List.size_toArray];omega
 have hlong:¬ (!its.toArray.isEmpty&&Builtin.List.listTooLong (its.toArray.size+its2.toArray.size))=true:=by
  rw[notLongL hsz,Bool.and_false]
  exact Bool.false_ne_true
 refine call_meets F.slot_list_extend ⟨_,e,rfl⟩ F.entry_list_extend (F.args_list_extend_2 _ _) (Z56 l its.toArray n b its2.toArray n2 dd sl hlong (by rw[List.size_toArray];omega) (by omega)) ⟨e,e2,?_⟩
 refine ⟨.non,_,I.lset (its':=its++its2) hH e (by simp) (r.append r2) ?_,rfl,q⟩
 rw[List.length_append]
 omega
def rSetDef:V→List V→Hp→VK→Prop:=fun x vs H Q=>∃ a b y kvs k,x=.ref a∧vs=[.ref b,y]∧H a=some (.dT kvs)∧H b=some (.tup (k.map kV))∧kvs.length<sizeLine ∧
 (∀ v,valV kvs k=some v→Q v H)∧(valV kvs k=none→Q y (upd H a (.dT (kvs++[(k,y)]))))
theorem Zf8 (hu:X.A.units+1<cLine):MtR X "dict.setdefault" rSetDef:=by
 intro pins s σ H x vs v us Q I rx rv h
 obtain ⟨a,b,y,kvs,k,rfl,rfl,hH,hB,hz,q1,q2⟩:=h
 cases rx
 cases rv with
 | cons ru rv=>
  cases rv with
  | cons ry rv=>
   cases rv
   cases ru
   obtain ⟨z,hd,xs,rel,dd⟩:=dt_of I.hok hH
   have hl:=Paired.length rel
   refine Z0y hd (tupleKind_room_in1 hu) (Z74 I.hok hB) dd (fun p hp=>?_) (fun hn h' dd' hs=>?_) (by omega)
   ·have rv:=rel.val k
    rw[hp] at rv
    cases ev:valV kvs k with
    | none=>rw[ev] at rv;exact rv.elim
    | some v0=>
     rw[ev] at rv
     exact ⟨v0,H,I.tok _,rv,q1 v0 ev⟩
   ·have rv:=rel.val k
    rw[hn] at rv
    have ev:valV kvs k=none:=by
     cases ev:valV kvs k with
     | none=>rfl
     | some v0=>rw[ev] at rv;exact rv.elim
    obtain ⟨o,es,ep,hq,h2,h3,h4,_,h5⟩:=dd'
    refine ⟨y,_,Z5f (t':=s.toks+(tupleKind (Zs X.prog X.w)).draws k) (ob:=.dT (kvs++[(k,y)])) I (by rw[hH];exact True.intro) hs ⟨o,hq⟩ ⟨by rw[List.length_append,List.length_singleton];omega,hd,_,(KT.keeps (H':=upd H a (.dT (kvs++[(k,y)]))) (Paired.snoc rel ⟨rfl,hB,ry⟩) fun c ys ec=>?_),o,es,ep,hq,h2,h3,h4,h5⟩,ry,q2 ev⟩
    rw[Z8 (ne_of ec hH (fun z=>nomatch z))]
    exact ec
theorem NAt.mono {H H':Hp} {k:Nest.NK} {a:Addr} (h:NAt H k a) (ht:∀ b xs,H b=some (.tup xs)→H' b=some (.tup xs)):NAt H' k a:=let ⟨d,h1,h2⟩:=h;⟨d,ht _ _ h1,ht _ _ h2⟩
theorem NAt.at {P:Program} {w:World} {H:Hp} {h:Heap} {k:Nest.NK} {a:Addr} (ok:HOk P w H h) (x:NAt H k a):Nest.At h k a:=by
 obtain ⟨d,h1,h2⟩:=x
 obtain ⟨_,its,r,o,e1,e2,n,e3⟩:=(show ObjOk P w H h a (.tup (k.1.map V.int++[.ref d])) from ok a _ h1)
 obtain ⟨_,its2,r2,o2,f1,f2,m,f3⟩:=(show ObjOk P w H h d (.tup (k.2.map V.int)) from ok d _ h2)
 have split:∀ {as:List Int} {us:List Value},Vals (as.map V.int++[.ref d]) us→∃ vs,us=vs++[.ref d]∧IntsAre vs as:=by
  intro as
  induction as with
  | nil=>
   intro us r
   cases r with
   | cons q t=>
    cases t
    cases q
    exact ⟨[],rfl,.nil⟩
  | cons x as ih=>
   intro us r
   cases r with
   | cons q t=>
    obtain ⟨vs,e,i⟩:=ih t
    obtain ⟨tk,rfl⟩:=q
    subst e
    exact ⟨Value.int x tk::vs,rfl,.cons x tk i⟩
 obtain ⟨vs,rfl,i1⟩:=split r
 exact ⟨vs,d,its2,⟨o,_,n,e1,e2,e3,by simp⟩,i1,⟨o2,_,m,f1,f2,f3,by simp⟩,r2.ints⟩
abbrev KN (H:Hp):List (Nest.NK×V)→List (Nest.NK×Addr×Value)→Prop:=Paired fun p q=>p.1=q.1∧NAt H p.1 q.2.1∧RelV p.2 q.2.2
theorem KN.val {H:Hp} {kvs:List (Nest.NK×V)} {xs:List (Nest.NK×Addr×Value)} (r:KN H kvs xs) (k:Nest.NK):(valV kvs k).isSome=(atKey xs k).isSome:=by
 induction r with
 | nil=>rfl
 | @cons p q ps qs h t ih=>
  obtain ⟨h1,_,h2⟩:=h
  by_cases e:p.1=k
  ·have e':q.1=k:=h1.symm.trans e
   rw[Z0n e,show atKey (q::qs) k=some q.2 by simp[atKey,List.find?_cons,e']];rfl
  ·have e':¬ q.1=k:=fun z=>e (h1.trans z)
   rw[W2 e,show atKey (q::qs) k=atKey qs k by simp[atKey,List.find?_cons,e']];exact ih
theorem dn_rd {P:Program} {w:World} {H:Hp} {h:Heap} {a:Addr} {kvs:List (Nest.NK×V)} (ok:HOk P w H h) (e:Rd H a (.dN kvs)):kvs.length≤sizeLine∧(a==sysModules)=false∧∃ xs,KN H kvs xs∧h.DictOfH (Nest.nestKind P w) a xs:=by
 obtain ⟨z,y,xs,r,o,es,ep,h1,h2,h3,h4,h5⟩:=(show ObjOk P w H h a (.dN kvs) from rd_of ok e)
 refine ⟨z,y,xs,r,o,es,ep,h1,h2,h3,h4,fun x hx=>?_,h5⟩
 have all:∀ {l:List (Nest.NK×V)} {m:List (Nest.NK×Addr×Value)},KN H l m→∀ x∈m,Nest.At h x.1 x.2.1:=by
  intro l m q
  induction q with
  | nil=>intro x hx;exact nomatch hx
  | @cons p q ps qs hq t ih=>
   intro x hx
   rcases List.mem_cons.mp hx with e | hx
   ·subst e
    exact NAt.at ok (by rw[← hq.1];exact hq.2.1)
   ·exact ih x hx
 exact all r x hx
theorem pc_nin {i o:Expr} {ty td:TE} (hu:X.A.units+128<cLine) (hi:PE X i ty) (ho:PE X o td) :
  PC X .In i o (fun σ H Q=>ty σ H fun y H1=>td σ H1 fun x H2=>∃ a b kvs k,x=.ref a∧y=.ref b∧H2 a=some (.dN kvs)∧NAt H2 k b∧Q (.bl (valV kvs k).isSome) H2):=by
 intro pins s σ H Q I h
 refine thn (hi pins s σ H _ I h) fun iv s1 ⟨y,H1,I1,ry,q1⟩=>thn (ho pins s1 σ H1 _ I1 q1) fun u s2 ⟨x,H2,I2,rx,a,b,kvs,k,ex,ey,e,eb,q2⟩=>?_
 subst ex ey
 obtain rfl:u=Value.ref a:=rx
 obtain rfl:iv=Value.ref b:=ry
 obtain ⟨z,hd,xs,rel,dd⟩:=dn_rd I2.hok (.inl e)
 refine wpAny_in_heap (knd:=Nest.nestKind X.prog X.w) (show X.A.units+1+64<cLine by omega) (NAt.at I2.hok eb) hd dd ?_
 rw[← rel.val k]
 exact ⟨.bl _,H2,I2.tok _,rfl,q2⟩
theorem ps_nput {o i value:Expr} {td ty tv:TE} {pos pos':Pos} (hu:X.A.units+128<cLine) (ho:PE X o td) (hi:PE X i ty) (hv:PE X value tv) (hs:swapsWith value (some (.Subscript o i pos')) pos.line X.env=pure false) :
  PS X (.Assign [.Subscript o i pos'] value pos) (fun D σ H=>tv σ H fun v H1=>td σ H1 fun x H2=>ty σ H2 fun y H3=>∃ a b kvs k,x=.ref a∧y=.ref b∧H3 a=some (.dN kvs)∧NAt H3 k b∧kvs.length<sizeLine∧valV kvs k=none∧D.nx σ (upd H3 a (.dN (kvs++[(k,v)])))):=by
 intro pins s σ H D I h
 refine wpAny_Assign_Subscript (thn (hv pins s σ H _ I h) fun r s1 ⟨v,H1,I1,rv,q1⟩=>thn (ho pins s1 σ H1 _ I1 q1) fun u s2 ⟨x,H2,I2,rx,q2⟩=>thn (hi pins s2 σ H2 _ I2 q2) fun iv s3 ⟨y,H3,I3,ry,a,b,kvs,k,ex,ey,e,eb,l,hn,q3⟩=>?_) hs
 subst ex ey
 obtain rfl:u=Value.ref a:=rx
 obtain rfl:iv=Value.ref b:=ry
 obtain ⟨z,hd,xs,rel,dd⟩:=dn_rd I3.hok (.inl e)
 have hl:=Paired.length rel
 have hk0:atKey xs k=none:=by
  have q:=rel.val k
  rw[hn] at q
  cases e0:atKey xs k with
  | none=>rfl
  | some p=>rw[e0] at q;cases q
 refine wpAny_setItem_heap (knd:=Nest.nestKind X.prog X.w) (hsz:=by omega) (show X.A.units+1+64<cLine by omega) (NAt.at I3.hok eb) dd fun h' dd' hs=>?_
 rw[storedH_new hk0] at dd'
 obtain ⟨ob,es,ep,hq,h2,h3,h4,_,h5⟩:=dd'
 refine ⟨σ,_,Z5f (t':=s3.toks+(Nest.nestKind X.prog X.w).draws k) (ob:=.dN (kvs++[(k,v)])) I3 (by rw[e];exact True.intro) hs ⟨ob,hq⟩ ⟨by rw[List.length_append,List.length_singleton];omega,hd,_,(Paired.mapP (Paired.snoc rel ⟨rfl,eb,rv⟩) fun p q z=>⟨z.1,z.2.1.mono fun c ys ec=>?_,z.2.2⟩),ob,es,ep,hq,h2,h3,h4,h5⟩,q3⟩
 rw[Z8 (ne_of ec e (fun z=>nomatch z))]
 exact ec
theorem Zh7 {P:Program} {w:World} {H:Hp} (h:Heap) (hb:sysModules<h.objs.size):ObjOk P w H (h.push { cls:=.type "dict",data:=.dict #[] }) h.objs.size (.dN []):=
 ⟨Nat.zero_le _,beq_eq_false_iff_ne.mpr (Nat.ne_of_gt hb),[],.nil,_,#[],0,Heap.get?_push_size _ rfl,⟨rfl,rfl,rfl⟩,rfl,rfl,List.nodup_nil⟩
theorem Zgu {pos:Pos}:PE X (.Dict [] [] pos) (fun _ H Q=>∀ p,H p=none→Q (.ref p) (upd H p (.dN []))):=fun pins s σ H Q I h=>
 wpAny_Dict_empty ⟨.ref s.heap.objs.size,_,I.laid (a:=s.heap.objs.size) (o:=.dN []) (t':=s.toks) (fun _ _ q=>Heap.get?_push_of_some _ q) (Nat.le_refl _) (Zh7 s.heap I.big),rfl,h _ (I.hok.fresh (Nat.le_refl _))⟩
theorem Z9q:CallR X (.builtin "len") (fun xs H Q=>∃ a kvs,xs=[V.ref a]∧H a=some (.dT kvs)∧Q (.int kvs.length) H):=by
 intro pins s σ H xs us Q I r h
 obtain ⟨a,kvs,rfl,ha,q⟩:=h
 obtain ⟨u,rfl,ru⟩:=vals1 r
 cases ru
 obtain ⟨z,hs,xs,pr,o,es,ep,ho,hx,hdt,he,_⟩:=I.hok a _ ha
 have l1:es.size=xs.length:=size_of_entries he
 have l2:kvs.length=xs.length:=Paired.length pr
 refine Z3i hs ho hx hdt (by omega) fun t tk=>⟨.int kvs.length,H,I.tok _,⟨t,by rw[l1,← l2]⟩,q⟩
theorem Z9r:CallR X (.builtin "len") (fun xs H Q=>∃ a kvs,xs=[V.ref a]∧H a=some (.dN kvs)∧Q (.int kvs.length) H):=by
 intro pins s σ H xs us Q I r h
 obtain ⟨a,kvs,rfl,ha,q⟩:=h
 obtain ⟨u,rfl,ru⟩:=vals1 r
 cases ru
 obtain ⟨z,hs,xs,pr,o,es,ep,ho,hx,hdt,he,_⟩:=I.hok a _ ha
 have l1:es.size=xs.length:=size_of_entries he
 have l2:kvs.length=xs.length:=Paired.length pr
 refine Z3i hs ho hx hdt (by omega) fun t tk=>⟨.int kvs.length,H,I.tok _,⟨t,by rw[l1,← l2]⟩,q⟩
theorem Zdm (hc:X.calm=true) (hu:X.A.units+128<cLine):CallR X (.builtin "sorted") (fun vs H Q=>∃ (a:Addr) (kvs:List (Nest.NK×V)),vs=[V.ref a]∧H a=some (.dN kvs)∧(∀ kv∈kvs,kv.1.1.length=4) ∧
  ∀ (ks:List Nest.NK) (out:List Addr) (p:Addr),ks.Perm (kvs.map (·.1))→ks.Pairwise (fun x y=>HT.lexLt (Nest.fl y) (Nest.fl x)=false)→Paired (fun k b=>NAt H k b) ks out→H p=none→Q (.ref p) (upd H p (.lst (out.map V.ref)))):=by
 intro pins s σ H xs us Q I r h
 obtain ⟨a,kvs,rfl,ha,h4,q⟩:=h
 obtain ⟨u,rfl,ru⟩:=vals1 r
 cases ru
 obtain ⟨z,hs,xs,pr,o,es,ep,ho,hx,hdt,he,_⟩:=I.hok a _ ha
 have l1:es.size=xs.length:=size_of_entries he
 have l2:kvs.length=xs.length:=Paired.length pr
 have pair:∀ {kvs:List (Nest.NK×V)} {xs:List (Nest.NK×Addr×Value)},KN H kvs xs→(∀ kv∈kvs,kv.1.1.length=4)→(∀ b∈xs.map (fun x=>x.2.1),∃ k:Nest.NK,NAt H k b∧k.1.length=4)∧(∀ b∈xs.map (fun x=>x.2.1),∀ k,NAt H k b→k∈kvs.map (·.1))∧(xs.map (fun x=>x.2.1)).map (Nest.kOf s.heap)=kvs.map (·.1):=by
  intro kvs xs q
  induction q with
  | nil=>intro _;exact ⟨fun b hb=>(nomatch hb),fun b hb=>(nomatch hb),rfl⟩
  | @cons p q ps qs hq t ih=>
   intro h4
   obtain ⟨i1,i2,i3⟩:=ih fun kv hkv=>h4 kv (List.mem_cons_of_mem _ hkv)
   refine ⟨fun b hb=>?_,fun b hb k hk=>?_,?_⟩
   ·rcases List.mem_cons.mp hb with rfl | hb
    ·exact ⟨p.1,hq.2.1,h4 p List.mem_cons_self⟩
    ·exact i1 b hb
   ·rcases List.mem_cons.mp hb with rfl | hb
    ·have e:=(NAt.at I.hok hq.2.1).inj (NAt.at I.hok hk)
     rw[← e]
     exact List.mem_cons_self
    ·exact List.mem_cons_of_mem _ (i2 b hb k hk)
   ·show Nest.kOf s.heap q.2.1::(qs.map (fun x=>x.2.1)).map (Nest.kOf s.heap)=p.1::ps.map (·.1)
    rw[i3,Nest.Wq (NAt.at I.hok hq.2.1)]
 obtain ⟨p1,p2,p3⟩:=pair pr h4
 refine Zaw (src_raw hs hx hdt) (I.ok.hd hc) ho (as:=xs.map fun x=>x.2.1) (by rw[List.length_map];exact l1) (fun i v ⟨en,e1,e2⟩=>?_) (by omega) (fun b hb=>let ⟨k,q1,q2⟩:=p1 b hb;⟨k,NAt.at I.hok q1,q2⟩) (by rw[List.length_map];omega) fun h' tk p ep' out keep hp hget o1 o2=>?_
 ·have q:=entry_at he i
  rw[e1] at q
  cases ex:xs[i]? with
  | none=>rw[ex] at q;cases q
  | some x=>
   rw[ex] at q
   cases q
   subst e2
   rw[List.map_map,List.getElem?_map,ex]
   rfl
 ·have hpair:∀ (l:List Addr),(∀ b∈l,b∈xs.map fun x=>x.2.1)→Paired (fun k b=>NAt H k b) (l.map (Nest.kOf s.heap)) l:=by
   intro l
   induction l with
   | nil=>intro _;exact .nil
   | cons b l ih=>
    intro hl
    obtain ⟨k,q1,q2⟩:=p1 b (hl b List.mem_cons_self)
    refine .cons ?_ (ih fun c hc=>hl c (List.mem_cons_of_mem _ hc))
    rw[Nest.Wq (NAt.at I.hok q1)]
    exact q1
  have I1:=I.kept (t':=tk) keep
  refine ⟨.ref p,upd H p (.lst (out.map V.ref)),I.laid (t':=tk) keep hp ⟨?_,out.map Value.ref,ep',?_,hget⟩,rfl,q (out.map (Nest.kOf s.heap)) out p ?_ ?_ (hpair out fun b hb=>o1.mem_iff.mp hb) (I.hok.fresh hp)⟩
  ·rw[List.length_map,o1.length_eq,List.length_map];omega
  ·have go:∀ l:List Addr,Vals (l.map V.ref) (l.map Value.ref):=fun l=>by
    induction l with
    | nil=>exact .nil
    | cons b l ih=>exact .cons rfl ih
   exact go out
  ·rw[← p3]
   exact o1.map _
  ·rw[List.pairwise_map]
   exact o2
theorem Zdn (hc:X.calm=true):CallR X (.builtin "sorted") (fun vs H Q=>∃ (a:Addr) (kvs:List (Key×V)) (ns:List Int),vs=[V.ref a]∧H a=some (.dK kvs)∧kvs.map (·.1)=ns.map Sum.inl∧ns.length<64 ∧
  ∀ (ns':List Int) (p:Addr),ns'.Perm ns→ns'.Pairwise (·≤·)→H p=none→Q (.ref p) (upd H p (.lst (ns'.map V.int)))):=by
 intro pins s σ H xs us Q I r h
 obtain ⟨a,kvs,ns,rfl,ha,hns,h64,q⟩:=h
 obtain ⟨u,rfl,ru⟩:=vals1 r
 cases ru
 obtain ⟨z,hs,vs,kv,dd⟩:=dk_of I.hok ha
 obtain ⟨ep,dat⟩:∃ ep,s.heap.DictAt (Zs X.prog X.w) a vs ep:=by
  obtain ⟨o,es,ep,h1,h2,h3,h4⟩:=dd
  exact ⟨ep,o,es,h1,h2,h3,h4⟩
 have hl:kvs.length=vs.length:=Paired.length kv
 have hl2:kvs.length=ns.length:=by have:=congrArg List.length hns;simpa using this
 refine Zdi (kdl_dict (knd:=Zs X.prog X.w) (kvs:=vs) (ep:=ep) hs) (I.ok.hd hc) dat (ns:=ns) (by omega) (fun i v ⟨k,x,e1,e2⟩=>?_) h64 fun h' tk p ep' out ns' keep hp hget i1 i2 i3=>?_
 ·have ek:(kvs.map (·.1))[i]?=some k:=by
   have:∀ {kvs:List (Key×V)} {vs:List (Key×Value)},KV kvs vs→∀ {i:Nat} {k x},vs[i]?=some (k,x)→(kvs.map (·.1))[i]?=some k:=by
    intro kvs vs h
    unfold KV at h
    induction h with
    | nil=>intro i k x e;simp at e
    | @cons a b l₁ l₂ r t ih=>
     intro i k x e
     cases i with
     | zero=>
      simp only[List.getElem?_cons_zero,Option.some.injEq] at e
      subst e
      simp[r.1]
     | succ j=>simpa using ih (by simpa using e)
   exact this kv e1
  rw[hns,List.getElem?_map] at ek
  cases en:ns[i]? with
  | none=>rw[en] at ek;cases ek
  | some n=>
   rw[en] at ek
   have ek:Sum.inl n=k:=Option.some.inj ek
   subst ek
   obtain ⟨t,et⟩:=Value.isInt_shape (show Value.isInt n v=true from e2)
   exact ⟨n,t,rfl,et⟩
 ·refine ⟨.ref p,upd H p (.lst (ns'.map V.int)),I.laid (t':=tk) keep hp ⟨?_,out.toList,ep',Z34 i1,by simpa using hget⟩,rfl,q ns' p i2 i3 (I.hok.fresh hp)⟩
  rw[List.length_map,i2.length_eq,sizeLine_eq];omega
theorem Zdr (hc:X.calm=true):CallR X (.type "list") (fun vs H Q=>∃ (a:Addr) (kvs:List (Key×V)),vs=[V.ref a]∧H a=some (.dK kvs)∧∀ p:Addr,H p=none→Q (.ref p) (upd H p (.lst (kvs.map fun kv=>kV kv.1)))):=by
 intro pins s σ H xs us Q I r h
 obtain ⟨a,kvs,rfl,ha,q⟩:=h
 obtain ⟨u,rfl,ru⟩:=vals1 r
 cases ru
 obtain ⟨z,hs,vs,kv,dd⟩:=dk_of I.hok ha
 obtain ⟨ep,dat⟩:∃ ep,s.heap.DictAt (Zs X.prog X.w) a vs ep:=by
  obtain ⟨o,es,ep,h1,h2,h3,h4⟩:=dd
  exact ⟨ep,o,es,h1,h2,h3,h4⟩
 have hl:kvs.length=vs.length:=Paired.length kv
 refine kdl_call (kdl_dict (knd:=Zs X.prog X.w) (kvs:=vs) (ep:=ep) hs) (I.ok.hd hc) dat (by omega) fun h' tk acc c' keep hget items=>?_
 refine ⟨.ref s.heap.objs.size,upd H s.heap.objs.size (.lst (kvs.map fun kv=>kV kv.1)),I.laid (t':=tk) keep (Nat.le_refl _) ⟨by rw[List.length_map];exact z,acc.toList,c',?_,by simpa using hget⟩,rfl,q _ (I.hok.fresh (Nat.le_refl _))⟩
 have go:∀ {kvs:List (Key×V)} {vs:List (Key×Value)},KV kvs vs→∀ (us:List Value),us.length=vs.length→(∀ (i:Nat) (v:Value),us[i]?=some v→∃ k x,vs[i]?=some (k,x)∧keyIs k v=true)→Vals (kvs.map fun kv=>kV kv.1) us:=by
  intro kvs vs h
  unfold KV at h
  induction h with
  | nil=>intro us hl _;cases us with | nil=>exact .nil | cons _ _=>simp at hl
  | @cons a b l₁ l₂ r t ih=>
   intro us hl hv
   cases us with
   | nil=>simp at hl
   | cons u us=>
    obtain ⟨k,x,e1,e2⟩:=hv 0 u rfl
    have e1:b=(k,x):=Option.some.inj e1
    subst e1
    refine .cons ?_ (ih us (by simpa using hl) fun i v e=>hv (i+1) v e)
    show RelV (kV a.1) u
    rw[show a.1=k from r.1]
    exact Z82 e2
 exact go kv _ (by rw[Array.length_toList];exact items.1) fun i v e=>items.2 i v (by rw[← Array.getElem?_toList];exact e)
theorem op_inN (hu:X.A.units+128<cLine):OpR X (compareOp .In) (fun x y H Q=>∃ (p b:Addr) (as:List Addr) (ks:List Nest.NK) (k:Nest.NK),x=.ref b∧y=.ref p∧SqL X.K H p (as.map V.ref)∧Paired (fun k a=>NAt H k a) ks as∧NAt H k b∧Q (.bl (ks.any fun j=>decide (j=k))) H):=by
 intro pins s σ H x y v u Q I rx ry h
 obtain ⟨p,b,as,ks,k,rfl,rfl,hq,hp,hb,q⟩:=h
 cases ry
 cases rx
 obtain ⟨its,r,pl,hz⟩:=I.list hq
 have eits:its=as.map Value.ref:=by
  have go:∀ {as:List Addr} {us:List Value},Vals (as.map V.ref) us→us=as.map Value.ref:=by
   intro as
   induction as with
   | nil=>intro us r;cases r;rfl
   | cons a as ih=>
    intro us r
    cases r with
    | cons q t=>
     cases q
     rw[ih t];rfl
  exact go r
 subst eits
 have kb:=NAt.at I.hok hb
 have fin:∀ {ks:List Nest.NK} {as:List Addr},Paired (fun k a=>NAt H k a) ks as→(∀ a∈as,∃ j,NAt H j a)∧(as.map Value.ref).any (fun v=>match v with | .ref a=>decide (Nest.kOf s.heap a=k) | _=>false)=ks.any fun j=>decide (j=k):=by
  intro ks as hp
  induction hp with
  | nil=>exact ⟨fun a ha=>(nomatch ha),rfl⟩
  | @cons j a js as r t ih=>
   refine ⟨fun c hc=>?_,?_⟩
   ·rcases List.mem_cons.mp hc with rfl | hc
    ·exact ⟨j,r⟩
    ·exact ih.1 c hc
   ·rw[List.map_cons,List.any_cons,List.any_cons,ih.2]
    show (decide (Nest.kOf s.heap a=k)||_)=_
    rw[Nest.Wq (NAt.at I.hok r)]
 obtain ⟨f1,f2⟩:=fin hp
 refine SeqAt.in_listAt (fun v=>match v with | .ref a=>decide (Nest.kOf s.heap a=k) | _=>false) pl.isList (fun y hy=>?_) ⟨.bl _,H,I,rfl,?_⟩
 ·obtain ⟨a,ha,rfl⟩:=List.mem_map.mp (show y∈as.map Value.ref by simpa using hy)
  obtain ⟨j,hj⟩:=f1 a ha
  have aj:=NAt.at I.hok hj
  show SeqAt.EqAt X.A.in1 s (.ref a) (.ref b) (decide (Nest.kOf s.heap a=k))
  rw[Nest.Wq aj]
  exact fun prog w E Q hq=>Nest.Z5e (show X.A.units+1+64<cLine by omega) aj kb hq
 ·rw[show ∀ (f:Value→Bool),(as.map Value.ref).toArray.any f=(as.map Value.ref).any f from fun f=>by simp,f2]
  exact q
end
end L2
end
section
namespace L2
open PySem PySem.Spec PyProof.Rows PySem.W
section
variable {X:Cx} {pins:List (Addr×Obj)} {σ:St} {H:Hp} {s:Shared} {d:Addr} {o:Obj}
theorem Inv.frzN {kvs:List (Nest.NK×V)} (I:Inv X pins σ H s) (h:H d=some (.frz o (.dN kvs))) :
  (d==sysModules)=false∧s.heap.get? d=some o∧o.ExactDict∧∃ (es:Array DictEntry) (ep:Nat),o.data=.dict es ep∧es.size=kvs.length ∧
   ∀ (i:Nat) (k:Nest.NK) (v:V),kvs[i]?=some (k,v)→∃ (en:DictEntry) (q:Addr),es[i]?=some en∧en.key=.ref q∧NAt H k q:=by
 obtain ⟨hd,z,hs,xs,pr,o',es,ep,ho,hx,hdt,he,_⟩:=I.hok d _ h
 rw[hd] at ho
 cases ho
 refine ⟨hs,hd,hx,es,ep,hdt,?_,fun i k v e=>?_⟩
 ·have l1:es.size=xs.length:=size_of_entries he
  have l2:kvs.length=xs.length:=Paired.length pr
  omega
 ·obtain ⟨b,hb,e1,e2,_⟩:=Z2t pr e
  have q:=entry_at he i
  rw[hb] at q
  exact ⟨_,b.2.1,q,rfl,e2⟩
end
noncomputable def Itkn (d:Addr) (o:Obj) (kvs:List (Nest.NK×V)):It:=
 ⟨fun i H=>H d=some (.frz o (.dN kvs))∧i<kvs.length,fun i H x H'=>H'=H∧∃ (k:Nest.NK) (v:V) (q:Addr),kvs[i]?=some (k,v)∧x=.ref q∧NAt H k q,fun i H=>H d=some (.frz o (.dN kvs))∧kvs.length≤i⟩
section
variable {P:Program} {w:World} {K:PySem.W.Frag} {tg:Expr} {d:Addr} {o:Obj} {es:Array DictEntry} {ep:Nat}
theorem Zck {kvs:List (Nest.NK×V)} (it:Addr) (hod:o.data=.dict es ep):Turn P w K tg (Itkn d o kvs) [it] it (fun i h=>h.IsKeyIter it d i kvs.length ep) where
 mem:=by simp
 obj:=fun i h st b hb=>by
  have e:b=it:=by simpa using hb
  subst e
  obtain ⟨oi,e,c,dd⟩:=st
  exact ⟨oi,e,fun v z=>by rw[dd] at z;cases z⟩
 keep:=fun i h h' st k=>st.at fun oi e=>k it (by simp) oi e
 item:=by
  intro X hP hw hK hc i pins s σ H E I hf st hg
  subst hP hw hK
  obtain ⟨hd,hi⟩:=hg
  obtain ⟨f0,f1,f2,f3,f4,f5⟩:=hf it (by simp)
  obtain ⟨hs,hgd,hx,es',ep',hdt,hsz,ent⟩:=I.frzN hd
  obtain ⟨rfl,rfl⟩:=Z0j hod hdt
  obtain ⟨⟨k,v⟩,hkv⟩:∃ p,kvs[i]?=some p:=⟨kvs[i],List.getElem?_eq_getElem hi⟩
  obtain ⟨en,q,hen,hkey,hq⟩:=ent i k v hkv
  refine We st hgd hdt hsz hen fun h' st' sb=>?_
  have I1:Inv X pins σ H { s with heap:=h' }:=I.turned (t':=s.toks) (fun b ob hb e=>(sb.2 b hb).trans e) f0 f1 f3 f4 f5
  obtain ⟨oi,e,c,dd⟩:=id st'
  exact ⟨en.key,rfl,go_of (s:={ s with heap:=h' }) e c dd (by decide) ⟨.ref q,H,I1,hkey,⟨rfl,k,v,q,hkv,rfl,hq⟩,st',fun b hb=>(hf b hb).1⟩⟩
 done:=by
  intro X hP hw hK hc i pins s σ H E I hf st hg
  subst hP hw hK
  obtain ⟨hd,hi⟩:=hg
  obtain ⟨f0,f1,f2,f3,f4,f5⟩:=hf it (by simp)
  obtain ⟨hs,hgd,hx,es',ep',hdt,hsz,ent⟩:=I.frzN hd
  obtain ⟨rfl,rfl⟩:=Z0j hod hdt
  exact Ue (I.ok.hd hc) st hgd hdt hsz hi fun h' eb=>⟨rfl,I.turned (t':=s.toks) (fun b ob hb e=>eb b ob hb e) f0 f1 f3 f4 f5⟩
 self:=fun A i s Q E st h=>by
  refine wpAny_pyIter_slot st.typeIs F.slot_dict_keyiterator_iter (wpAny_call_entry F.slot_dict_keyiterator_iter st.typeIs F.entry_dict_keyiterator_iter ?_ (F.args_dict_keyiterator_iter_1 _))
  show wpAny _ _ (ret (.ref it)) _ _ s
  exact wpAny_pure ⟨_,rfl, "dict_keyiterator",_,st.typeIs,F.slot_dict_keyiterator_next.lookup,h⟩
end
def iKeysN (td:TE):TI:=fun σ H R=>td σ H fun x H1=>∃ d o kvs,x=.ref d∧H1 d=some (.frz o (.dN kvs))∧R (Itkn d o kvs) H1
theorem Zgr {X:Cx} {tg e:Expr} {td:TE} (he:PE X e td):PI X tg e (iKeysN td):=by
 intro pins s σ H R I h
 refine thn (he pins s σ H _ I h) fun u s1 ⟨x,H1,I1,rx,d,o,kvs,ex,hd,q⟩=>?_
 subst ex
 obtain rfl:u=Value.ref d:=rx
 obtain ⟨hs,hgd,hx,es,ep,hdt,hsz,ent⟩:=I1.frzN hd
 refine Z2a hs hgd hx hdt (Z9e (tk:=s1.toks) I1 _ (Zck _ hdt) ⟨_,Heap.get?_push_size _ rfl,rfl,?_⟩ q)
 rw[hsz] <;> rfl
section
open PySem.SeqAt
open PySem.AutoSeq1 (wpAny_loadPart')
open PySem.MeetsSeq PySem.MeetsSeq2 PySem.MeetsSeq3
theorem Zbz {prog:Program} {w:World} {h:Heap} {d:Addr} {its:Array Value} {u:List Int} (t:IsTup h d its) (i:IntsAre its.toList u):IsTupleKey (PySem.intKind prog w) h u d:=by
 obtain ⟨o,e1,e2,n,e3⟩:=t
 exact ⟨o,its,n,e1,e2,e3,Nest.IntsAre.items i⟩
theorem Z7i (l b d e:Addr) (vs ws:List Value) (n n2:Nat) (dd dd2:Option Addr) (sl sl2:Array (Option Value)) (ns ms u v:List Int) (du dv:Array Value) (hi:IntsAre vs ns) (hj:IntsAre ws ms) (hu:IntsAre du.toList u) (hv:IntsAre dv.toList v) (hlen:ns.length=ms.length) :
  Meets (Builtin.«tuple.__lt__» ⟨[.ref l,.ref b],[]⟩)
   (fun A R s=>s.heap.get? l=some { cls:=.type "tuple",dict:=dd,data:=.seq (vs++[Value.ref d]).toArray n,slots:=sl }∧s.heap.get? b=some { cls:=.type "tuple",dict:=dd2,data:=.seq (ws++[Value.ref e]).toArray n2,slots:=sl2 } ∧
    IsTup s.heap d du∧IsTup s.heap e dv∧A.units+8<cLine∧R (.ok (.ret (.bool (HT.lexLt (ns++u) (ms++v))))) s):=
 .of_wp fun prog w A R s h=>by
  obtain ⟨hp,g,dr,tk,os⟩:=s
  obtain ⟨hl,hb,td,te,hroom,h⟩:=h
  have f2:=AutoSeq1.sub_tuple_tuple
  have z1:vs.length=ns.length:=hi.length
  have z2:ws.length=ms.length:=hj.length
  have hsz:¬ ((vs++[Value.ref d]).toArray.size<(ws++[Value.ref e]).toArray.size):=by simp;omega
  wp_walk using wpAny_loadPart' hl,wpAny_loadPart' hb,wpAny_forIn_list _ (fun rest b s'=>b.1=none∧s'=⟨hp,g,dr,tk,os⟩∧((∃ (vs ws:List Value) (ns' ms':List Int),rest=(vs++[Value.ref d]).zip (ws++[Value.ref e]) ∧
   IntsAre vs ns'∧IntsAre ws ms'∧ns'.length=ms'.length∧R (.ok (.ret (.bool (HT.lexLt (ns'++u) (ms'++v))))) ⟨hp,g,dr,tk,os⟩)∨(rest=[]∧R (.ok (.ret (.bool false))) ⟨hp,g,dr,tk,os⟩))) _
  case turn=>
   rintro ⟨y,x⟩ rest b s' ⟨hb',rfl,⟨vs,ws,ns',ms',hz,hvi,hwi,hl',hR⟩ | ⟨hz,_⟩⟩
   ·cases hvi with
    | nil=>
     cases hwi with
     | cons c t hwi'=>simp at hl'
     | nil=>
      have hz:(y,x)::rest=[(Value.ref d,Value.ref e)]:=hz
      injection hz with hyx hrest
      injection hyx with hy hx
      subst hy hx hrest
      have hR:R (.ok (.ret (.bool (HT.lexLt u v)))) ⟨hp,g,dr,tk,os⟩:=hR
      refine wpAny_bind (wpAny_eqBool_tuple (knd:=PySem.intKind prog w) (x:=u) (y:=v) (show A.units+1<cLine by omega) (Zbz td hu) (Zbz te hv) ?_)
      by_cases q:u=v
      ·subst q
       rw[Nest.Z1o] at hR
       rw[decide_eq_true rfl]
       wp_walk
       exact ⟨rfl,rfl,.inr ⟨rfl,hR⟩⟩
      ·rw[decide_eq_false q]
       have hri:∀ (E:Value→Shared→Prop) (Q:Value→Shared→Prop),Q (.bool (HT.lexLt u v)) ⟨hp,g,dr,tk,os⟩→wpAny (model prog w) A.in1 (richCompare .Lt (.ref d) (.ref e)) Q E ⟨hp,g,dr,tk,os⟩:=
        fun E Q hq=>(HT.Z71 td te hu hv (show A.units+1<cLine by omega) hq:wpAny (model prog w) A.in1 (compareOp .Lt (.ref d) (.ref e)) Q E ⟨hp,g,dr,tk,os⟩)
       wp_walk using hri
       exact ⟨_,rfl,by simpa using hR⟩
    | @cons a t vr nsr hvi'=>
     cases hwi with
     | nil=>simp at hl'
     | @cons c t' wr msr hwi'=>
      have hz:(y,x)::rest=_::_:=hz
      injection hz with hyx hrest
      injection hyx with hy hx
      subst hy hx
      have hR:R (.ok (.ret (.bool (HT.lexLt (a::(nsr++u)) (c::(msr++v)))))) ⟨hp,g,dr,tk,os⟩:=hR
      rw[HT.Uy] at hR
      simp only[List.length_cons] at hl'
      obtain ⟨e,he,hiff⟩:=HT.Zc9 A.in1 ⟨hp,g,dr,tk,os⟩ a t c t'
      refine wpAny_bind (he prog w _ _ ?_)
      cases e with
      | true=>
       rw[if_pos (hiff.mp rfl)] at hR
       wp_walk
       exact ⟨rfl,rfl,.inl ⟨_,_,_,_,hrest,hvi',hwi',by omega,hR⟩⟩
      | false=>
       rw[if_neg (fun q=>absurd (hiff.mpr q) Bool.false_ne_true)] at hR
       have hri:=HT.Zbj A.in1 ⟨hp,g,dr,tk,os⟩ a t c t' prog w
       wp_walk using hri
       exact ⟨_,rfl,by simpa using hR⟩
   ·cases hz
  case fin=>
   rintro ⟨b1,b2⟩ s' ⟨hb',rfl,⟨vs,ws,ns',ms',hz,hvi,hwi,hl',hR⟩ | ⟨_,hR⟩⟩
   ·exfalso
    have:=congrArg List.length hz
    simp at this
   ·simp only at hb'
    subst hb'
    wp_walk
    refine ⟨_,rfl,?_⟩
    have e0:decide ((vs++[Value.ref d]).toArray.size<(ws++[Value.ref e]).toArray.size)=false:=decide_eq_false hsz
    simpa [Builtin.Tuple.tupleCompareSizes,z1,z2,hlen] using hR
  case h=>
   refine ⟨rfl,rfl,.inl ⟨vs,ws,ns,ms,?_,hi,hj,hlen,h⟩⟩
   simp
end
section
variable {prog:Program} {w:World} {A:Around} {E:Value→Shared→Prop} {s:Shared}
theorem lt_nest {x y:Nest.NK} {a b:Addr} {Q:Value→Shared→Prop} (hx:Nest.At s.heap x a) (hy:Nest.At s.heap y b) (hl:x.1.length=y.1.length) (hu:A.units+64<cLine) (h:Q (.bool (HT.lexLt (Nest.fl x) (Nest.fl y))) s) :
  wpAny (model prog w) A (richCompare .Lt (.ref a) (.ref b)) Q E s:=by
 obtain ⟨vs,d,us,⟨⟨cls,dd,data,sl⟩,items,n,ho,hc,hd,hi⟩,i1,⟨o2,items2,n2,ho2,hc2,hd2,hi2⟩,i2⟩:=hx
 obtain ⟨ws,e,zs,⟨⟨cls',dd',data',sl'⟩,items',n',ho',hc',hd',hi'⟩,j1,⟨o3,items3,n3,ho3,hc3,hd3,hi3⟩,j2⟩:=hy
 simp only at hc hd hc' hd'
 subst hc hd hc' hd'
 have e1:items=(vs++[Value.ref d]).toArray:=by apply Array.ext';rw[hi]
 have e2:items'=(ws++[Value.ref e]).toArray:=by apply Array.ext';rw[hi']
 subst e1 e2
 exact richCompare_meets_room (op:=.Lt) ⟨_,ho,rfl⟩ ⟨_,ho',rfl⟩ PySem.F.slot_tuple_lt PySem.F.entry_tuple_lt (PySem.F.args_tuple_lt_2 _ _) (Z7i a b d e vs ws n n' dd dd' sl sl' x.1 y.1 x.2 y.2 items2 items3 i1 j1 (by rw[hi2];exact i2) (by rw[hi3];exact j2) hl)
  ⟨ho,ho',⟨o2,ho2,hc2,n2,hd2⟩,⟨o3,ho3,hc3,n3,hd3⟩,(by omega),show Value.bool _≠Value.notImplemented∧Q (.bool _) s from ⟨(fun x=>nomatch x),h⟩⟩ (by omega)
end
end L2
end
section
namespace L2
open PySem PySem.Spec PyProof.Rows PySem.W
section
variable {prog:Program} {w:World} {A:Around} {E:Value→Shared→Prop} {s:Shared}
def bestN (ks:List Nest.NK):Nat→Nat
 | 0=>0
 | j+1=>if HT.lexLt (Nest.fl (ks.getD (j+1) ([],[]))) (Nest.fl (ks.getD (bestN ks j) ([],[])))=true then j+1 else bestN ks j
theorem Zch (ks:List Nest.NK):∀ j,bestN ks j≤j
 | 0=>Nat.le_refl _
 | j+1=>by
  have:=Zch ks j
  unfold bestN
  split <;> omega
theorem atKeep {h h':Heap} {k:Nest.NK} {a:Addr} (x:Nest.At h k a) (hk:∀ b o,h.get? b=some o→o.cls=.type "tuple" → h'.get? b=some o):Nest.At h' k a:=by
 obtain ⟨us,d,ws,⟨o,it,m,e1,e2,e3,e4⟩,i1,⟨o',it',m',f1,f2,f3,f4⟩,i2⟩:=x
 exact ⟨us,d,ws,⟨o,it,m,hk a o e1 e2,e2,e3,e4⟩,i1,⟨o',it',m',hk d o' f1 f2,f2,f3,f4⟩,i2⟩
theorem Zfa {R:Result→Shared→Prop} {I l S:Addr} {as:List Addr} {ks:List Nest.NK} {kw:List (Str×Value)} (hh:A.in1.handled=none) (hlI:l≠I) (hSI:S≠I) (hSl:S≠l) (hu:A.units+96<cLine) (hkl:ks.length=as.length) (h4:∀ k∈ks,k.1.length=4) :
  ∀ (m j:Nat) (s:Shared) (c:Nat),as.length-(j+1)=m→j+1≤as.length→s.heap.IsListIter I l (j+1)→s.heap.IsList l (as.map Value.ref).toArray→(∀ (i:Nat) (k:Nest.NK) (a:Addr),ks[i]?=some k→as[i]?=some a→Nest.At s.heap k a) →
  (∃ a,as[bestN ks j]?=some a∧s.heap.get? S=some { cls:=.type "list",dict:=none,data:=.seq #[Value.ref a,Value.ref a] c,slots:=#[] }) →
  (∀ a h' tk,as[bestN ks (as.length-1)]?=some a→(∀ b o,b≠I→b≠S→s.heap.get? b=some o→h'.get? b=some o)→R (.ok (.ret (.ref a))) { s with heap:=h',toks:=tk }) →
  codeAny (model prog w) A (.builtin "min.loop" ⟨[.ref I,.none,.ref S],kw⟩) R s:=by
 have hname:(toString "min" ++ toString ".loop" : String) = "min.loop" := by decide
 have W:=Walks.list (prog:=prog) (w:=w) hh I l hlI (as.map Value.ref).toArray
 have hW:(as.map Value.ref).toArray.size=as.length:=by simp
 rw[hW] at W
 intro m
 induction m with
 | zero=>
  intro j s c hk hj hit hls hat ⟨a,ha,hS⟩ hR
  have hin:j+1=as.length:=by omega
  refine codeAny_builtin F.entry_min_loop ?_
  rw[Around.under_plainId F.plain_min_loop _]
  show wpAny _ A.in1 (seqItems? (.ref S) >>= _) _ _ s
  refine wpAny_bind (wpAny_seqItems hS rfl ?_)
  show wpAny _ A.in1 (tryCatch (pyNext (.ref I)) _ >>= _) _ _ s
  refine wpAny_bind (wpAny_tryCatch (W.done s _ _ ⟨hin ▸ hit,hls⟩ fun h' tk hk'=>?_))
  have hS':=hk' S _ (by simp[hSI]) hS
  show wpAny _ A.in1 (updateSeq S (fun _=>#[]) >>= _) _ _ _
  refine wpAny_bind (wpAny_updateSeq hS' rfl (wpAny_bind (wpAny_letGo (wpAny_pure ?_))))
  exact hR a _ tk (by rw[← hin];exact ha) fun b o hbI hbS e=>(Heap.get?_update_other _ _ (Ne.symm hbS)).trans (hk' b o (by simp[hbI]) e)
 | succ m ih=>
  intro j s c hk hj hit hls hat ⟨a,ha,hS⟩ hR
  have hlt:j+1<as.length:=by omega
  refine codeAny_builtin F.entry_min_loop ?_
  rw[Around.under_plainId F.plain_min_loop _]
  show wpAny _ A.in1 (seqItems? (.ref S) >>= _) _ _ s
  refine wpAny_bind (wpAny_seqItems hS rfl ?_)
  show wpAny _ A.in1 (tryCatch (pyNext (.ref I)) _ >>= _) _ _ s
  refine wpAny_bind (wpAny_tryCatch (W.item (j+1) s _ _ hlt ⟨hit,hls⟩ fun v h' tk hP hst' hk'=>?_))
  have hP':(as.map Value.ref)[j+1]?=some v:=by simpa using hP
  obtain ⟨a2,ha2⟩:∃ a2,as[j+1]?=some a2:=⟨as[j+1],List.getElem?_eq_getElem hlt⟩
  have ev:v=Value.ref a2:=by
   rw[List.getElem?_map,ha2] at hP'
   exact (Option.some.inj hP').symm
  subst ev
  have hS':=hk' S _ (by simp[hSI]) hS
  have hat':∀ (i:Nat) (k:Nest.NK) (a:Addr),ks[i]?=some k→as[i]?=some a→Nest.At h' k a:=fun i k b e1 e2=>atKeep (hat i k b e1 e2) fun b o q c=>hk' b o (by
   intro z
   have z:b=I:=by simpa using z
   subst z
   obtain ⟨oi,g1,g2,_⟩:=hit
   rw[g1] at q
   cases q
   rw[g2] at c
   injection c with c
   exact absurd c (by decide)) q
  have hb1:=Zch ks j
  obtain ⟨k1,hk1⟩:∃ k1,ks[bestN ks j]?=some k1:=⟨ks[bestN ks j]'(by omega),List.getElem?_eq_getElem _⟩
  obtain ⟨k2,hk2⟩:∃ k2,ks[j+1]?=some k2:=⟨ks[j+1]'(by omega),List.getElem?_eq_getElem _⟩
  have A1:=hat' _ _ _ hk1 ha
  have A2:=hat' _ _ _ hk2 ha2
  have L1:=h4 k1 (List.mem_of_getElem? hk1)
  have L2:=h4 k2 (List.mem_of_getElem? hk2)
  have g1:ks.getD (bestN ks j) ([],[])=k1:=by simp[List.getD,hk1]
  have g2:ks.getD (j+1) ([],[])=k2:=by simp[List.getD,hk2]
  show wpAny _ A.in1 (tryCatch (holding [Value.ref a2,Value.ref a2] (richCompare .Lt (.ref a2) (.ref a) >>= _)) _ >>= _) _ _ _
  refine wpAny_bind (wpAny_tryCatch (wpAny_holding (wpAny_bind (lt_nest (s:={ s with heap:=h',toks:=tk }) A2 A1 (by omega) (show A.units+1+64<cLine by omega) ?_))))
  refine wpAny_bind (wpAny_holding (wpAny_truthy_bool ?_))
  refine wpAny_bind (wpAny_letGo (wpAny_pure ?_))
  cases hb:HT.lexLt (Nest.fl k2) (Nest.fl k1) with
  | true=>
   have best:bestN ks (j+1)=j+1:=by unfold bestN;rw[g1,g2,if_pos hb]
   simp only[if_true]
   refine wpAny_bind (wpAny_updateSeq hS' rfl (wpAny_bind (wpAny_letGo ?_)))
   rw[hname]
   refine wpAny_pure ⟨plainId_quiet F.plain_min_loop _,ih (j+1) _ _ (by omega) hlt (hst'.1.at fun o e=>?_) (hst'.2.at fun o e=>?_) (fun i k b e1 e2=>atKeep (hat' i k b e1 e2) fun b o q c=>?_) ⟨a2,by rw[best];exact ha2,Heap.get?_update_self _ hS' rfl⟩ fun b h'' tk'' hb' hk''=>?_⟩
   ·exact (Heap.get?_update_other _ _ hSI).trans e
   ·exact (Heap.get?_update_other _ _ hSl).trans e
   ·have hne:S≠b:=by
     intro z
     subst z
     rw[hS'] at q
     cases q
     injection c with c
     exact absurd c (by decide)
    exact (Heap.get?_update_other _ _ hne).trans q
   ·exact hR b h'' tk'' hb' fun b o hbI hbS e=>hk'' b o hbI hbS ((Heap.get?_update_other _ _ (Ne.symm hbS)).trans (hk' b o (by simp[hbI]) e))
  | false=>
   have best:bestN ks (j+1)=bestN ks j:=by
    show (if _ then _ else _)=_
    rw[g1,g2,if_neg (by rw[hb];exact Bool.false_ne_true)]
   simp only[Bool.false_eq_true,if_false]
   refine wpAny_bind (wpAny_letGo ?_)
   rw[hname]
   refine wpAny_pure ⟨plainId_quiet F.plain_min_loop _,ih (j+1) _ c (by omega) hlt hst'.1 hst'.2 hat' ⟨a,by rw[best];exact ha,hS'⟩ fun b h'' tk'' hb' hk''=>?_⟩
   exact hR b h'' tk'' hb' fun b o hbI hbS e=>hk'' b o hbI hbS (hk' b o (by simp[hbI]) e)
theorem Z3t (a v:Value):argsOk "min" ⟨[a],[(Str.ofString "default",v)]⟩:=by unfold argsOk;kernel_rfl
theorem Zgy {l:Addr} {as:List Addr} {ks:List Nest.NK} {dv:Value} {Q:Value→Shared→Prop} (hh:A.handled=none) (hu:A.units+96<cLine) (hls:s.heap.IsList l (as.map Value.ref).toArray) (hkl:ks.length=as.length) (h4:∀ k∈ks,k.1.length=4)
  (hat:∀ (i:Nat) (k:Nest.NK) (a:Addr),ks[i]?=some k→as[i]?=some a→Nest.At s.heap k a)
  (h1:as=[]→∀ h' tk,(∀ b o,s.heap.get? b=some o→h'.get? b=some o)→Q dv { s with heap:=h',toks:=tk })
  (h2:∀ a h' tk,as[bestN ks (as.length-1)]?=some a→(∀ b o,s.heap.get? b=some o→h'.get? b=some o)→Q (.ref a) { s with heap:=h',toks:=tk }) :
  wpAny (model prog w) A (call (.builtin "min") [.ref l] [(Str.ofString "default",dv)]) Q E s:=by
 have hname:(toString "min" ++ toString ".loop" : String) = "min.loop" := by decide
 have hll:l<s.heap.objs.size:=by obtain ⟨o,e,_⟩:=hls;exact Heap.lt_size e
 refine kmk_tree F.kind_min F.plain_min F.entry_min (Z3t _ _) ?_
 show wpAny _ A.in1 (Builtin.Builtins.bindParams "min" ["key", "default"] 0 ⟨[],[(Str.ofString "default",dv)]⟩ >>= _) _ _ s
 refine wpAny_bind (wpAny_of_eq (show Builtin.Builtins.bindParams "min" ["key", "default"] 0 ⟨[],[(Str.ofString "default",dv)]⟩=pure [none,some dv] from rfl) ?_)
 refine wpAny_bind (wpAny_pure ?_)
 refine wpAny_bind (wpAny_pyIter_list hls ?_)
 refine wpAny_bind (wpAny_newObj_type ?_)
 rw[hname]
 generalize hh1:s.heap.push { cls:=.type "list_iterator",data:=.fields #[.ref l,.int 0 0] }=hp1
 have z1:hp1.objs.size=s.heap.objs.size+1:=by rw[← hh1];exact size_push' _ _
 have keep1:∀ b o,s.heap.get? b=some o→hp1.get? b=some o:=fun b o e=>by rw[← hh1];exact Heap.get?_push_of_some _ e
 have it1:hp1.get? s.heap.objs.size=some { cls:=.type "list_iterator",data:=.fields #[.ref l,.int 0 0] }:=by rw[← hh1];exact Heap.get?_push_size _ rfl
 have keep2:∀ b o,s.heap.get? b=some o→(hp1.push { cls:=.type "list",data:=.seq #[] }).get? b=some o:=fun b o e=>Heap.get?_push_of_some _ (keep1 b o e)
 have it2:(hp1.push { cls:=.type "list",data:=.seq #[] }).get? s.heap.objs.size=some { cls:=.type "list_iterator",data:=.fields #[.ref l,.int 0 0] }:=Heap.get?_push_of_some _ it1
 have hS:(hp1.push { cls:=.type "list",data:=.seq #[] }).get? hp1.objs.size=some { cls:=.type "list",data:=.seq #[] }:=Heap.get?_push_size _ rfl
 have hit:(hp1.push { cls:=.type "list",data:=.seq #[] }).IsListIter s.heap.objs.size l 0:=⟨_,it2,rfl,rfl⟩
 have hls2:(hp1.push { cls:=.type "list",data:=.seq #[] }).IsList l (as.map Value.ref).toArray:=hls.at fun o e=>keep2 l o e
 have hlI:l≠s.heap.objs.size:=Nat.ne_of_lt hll
 have hSI:hp1.objs.size≠s.heap.objs.size:=by omega
 have hle1:s.heap.objs.size≤hp1.objs.size:=by omega
 have hSl:hp1.objs.size≠l:=Nat.ne_of_gt (Nat.lt_of_lt_of_le hll hle1)
 have W:=Walks.list (prog:=prog) (w:=w) (A:=A.in1) hh s.heap.objs.size l hlI (as.map Value.ref).toArray
 have hW:(as.map Value.ref).toArray.size=as.length:=by simp
 rw[hW] at W
 refine wpAny_pure ⟨plainId_quiet F.plain_min_loop _,?_⟩
 refine codeAny_builtin F.entry_min_loop ?_
 rw[Around.under_plainId F.plain_min_loop _]
 show wpAny _ A.in1 (seqItems? (.ref hp1.objs.size) >>= _) _ _ _
 refine wpAny_bind (wpAny_seqItems (s:={ s with heap:=hp1.push { cls:=.type "list",data:=.seq #[] } }) hS rfl ?_)
 show wpAny _ A.in1 (tryCatch (pyNext (.ref s.heap.objs.size)) _ >>= _) _ _ _
 by_cases h0:as=[]
 ·subst h0
  refine wpAny_bind (wpAny_tryCatch (W.done { s with heap:=hp1.push { cls:=.type "list",data:=.seq #[] } } _ _ ⟨hit,hls2⟩ fun h' tk hk'=>?_))
  refine wpAny_bind (wpAny_rule (wpAny_pure ?_))
  exact h1 rfl h' tk fun b o e=>hk' b o (by
   intro z
   have z:b=s.heap.objs.size:=by simpa using z
   exact absurd (Heap.lt_size e) (by rw[z];exact Nat.lt_irrefl _)) (keep2 b o e)
 ·have hpos:0<as.length:=List.length_pos_iff.mpr h0
  refine wpAny_bind (wpAny_tryCatch (W.item 0 { s with heap:=hp1.push { cls:=.type "list",data:=.seq #[] } } _ _ hpos ⟨hit,hls2⟩ fun v h' tk hP hst' hk'=>?_))
  have hP':(as.map Value.ref)[0]?=some v:=by simpa using hP
  obtain ⟨a2,ha2⟩:∃ a2,as[0]?=some a2:=⟨as[0],List.getElem?_eq_getElem hpos⟩
  have ev:v=Value.ref a2:=by
   rw[List.getElem?_map,ha2] at hP'
   exact (Option.some.inj hP').symm
  subst ev
  have hS':=hk' hp1.objs.size _ (by simp;omega) hS
  have keep3:∀ b o,s.heap.get? b=some o→h'.get? b=some o:=fun b o e=>hk' b o (by
   intro z
   have z:b=s.heap.objs.size:=by simpa using z
   exact absurd (Heap.lt_size e) (by rw[z];exact Nat.lt_irrefl _)) (keep2 b o e)
  show wpAny _ A.in1 (updateSeq hp1.objs.size (fun _=>#[Value.ref a2,Value.ref a2]) >>= _) _ _ _
  refine wpAny_bind (wpAny_updateSeq hS' rfl ?_)
  rw[hname]
  refine wpAny_pure ⟨plainId_quiet F.plain_min_loop _,Zfa (R:=_) hh hlI hSI hSl hu hkl h4 _ 0 _ _ rfl hpos (hst'.1.at fun o e=>?_) (hst'.2.at fun o e=>?_) (fun i k b e1 e2=>atKeep (hat i k b e1 e2) fun b o q c=>?_) ⟨a2,ha2,Heap.get?_update_self _ hS' rfl⟩ fun b h'' tk'' hb' hk''=>?_⟩
  ·exact (Heap.get?_update_other _ _ hSI).trans e
  ·exact (Heap.get?_update_other _ _ hSl).trans e
  ·have hlt:=Heap.lt_size q
   exact (Heap.get?_update_other _ _ (show hp1.objs.size≠b from Nat.ne_of_gt (Nat.lt_of_lt_of_le hlt hle1))).trans (keep3 b o q)
  ·refine h2 b h'' tk'' hb' fun b o e=>hk'' b o ?_ ?_ ((Heap.get?_update_other _ _ ?_).trans (keep3 b o e))
   ·exact Nat.ne_of_lt (Heap.lt_size e)
   ·exact Nat.ne_of_lt (Nat.lt_of_lt_of_le (Heap.lt_size e) hle1)
   ·exact Nat.ne_of_gt (Nat.lt_of_lt_of_le (Heap.lt_size e) hle1)
end
section
variable {X:Cx}
theorem ks_get {H:Hp} {ks:List Nest.NK} {as:List Addr} (h:Paired (fun k a=>NAt H k a) ks as):∀ {i:Nat} {k:Nest.NK} {a:Addr},ks[i]?=some k→as[i]?=some a→NAt H k a:=by
 induction h with
 | nil=>intro i k a e;simp at e
 | cons r t ih=>
  intro i k a e1 e2
  cases i with
  | zero=>
   simp only[List.getElem?_cons_zero,Option.some.injEq] at e1 e2
   subst e1 e2
   exact r
  | succ j=>exact ih (by simpa using e1) (by simpa using e2)
def tMinN (K:PySem.W.Frag) (t:TA):TE:=fun σ H Q=>t σ H fun vs H1=>∃ (p:Addr) (as:List Addr) (ks:List Nest.NK),vs=[.ref p]∧SqL K H1 p (as.map V.ref)∧Paired (fun k a=>NAt H1 k a) ks as∧(∀ k∈ks,k.1.length=4) ∧
 (as=[]→Q .non H1)∧∀ a,as[bestN ks (as.length-1)]?=some a→Q (.ref a) H1
theorem Zeo:∀ {as:List Addr} {us:List Value},Vals (as.map V.ref) us→us=as.map Value.ref
 | [],_,r=>by cases r;rfl
 | a::as,_,r=>by
  cases r with
  | cons q t=>
   cases q
   rw[Zeo t];rfl
theorem pe_minN {e:Expr} {t:TA} {p pos kpos npos:Pos} {j:Nat} (hc:X.calm=true) (hu:X.A.units+128<cLine) (hg:Gl X "min") (hm:X.mg "min" = none) (ha:PA X [e] t) (hs:starEach [e] X.env=(false,eval e X.env)::starEach [] X.env:=by rfl) :
  PE X (.Call (.Name "min" p) [e] [⟨some "default",.Constant .none j npos,kpos⟩] pos) (tMinN X.K t):=by
 intro pins s σ H Q I h
 refine wpAny_Call_Name_kw (Z58 I hg hm (show bootBuiltins "min" = some (.builtin "min") by decide +kernel) ?_)
 refine callWith_builtin_kwB (by rw[hs];rfl) rfl (PyProof.Rows.evalArgs_kw2 (e:=e) (rest:=[]) (kws:=[⟨some "default",.Constant .none j npos,kpos⟩]) (env:=X.env) rfl ?_ hs)
 refine thn (ha pos pins s σ H _ I h) fun us s1 ⟨vs,H1,I1,r1,pa,as,ks,ev,hq,hp,h4,q0,q1⟩=>?_
 refine thn ((pk_cons (nm:=some "default") (kpos:=kpos) (Z6t (X:=X) (j:=j) (pos:=npos)) pk_nil) pos pins s1 σ H1 (fun zs H2=>zs=[.non]∧H2=H1) I1 ⟨rfl,rfl⟩) fun ws s2 ⟨zs,H2,I2,r2,e1,e2⟩=>?_
 subst ev e1 e2
 obtain ⟨u,rfl,ru⟩:=vals1 r1
 obtain ⟨dv,rfl,rd⟩:=vals1 r2
 cases ru
 obtain rfl:dv=Value.none:=rd
 obtain ⟨its,r,pl,hz⟩:=I2.list hq
 have eits:=Zeo r
 subst eits
 refine Zgy (ks:=ks) (as:=as) (I2.ok.hd hc) (by omega) pl.isList (Paired.length hp) h4 (fun i k a g1 g2=>NAt.at I2.hok (ks_get hp g1 g2)) (fun e0 h' tk keep=>?_) (fun a h' tk ha keep=>?_)
 ·exact ⟨.non,H2,I2.kept keep,rfl,q0 e0⟩
 ·exact ⟨.ref a,H2,I2.kept keep,rfl,q1 a ha⟩
end
end L2
end
section
namespace L2
open PySem PySem.Spec PyProof.Rows PySem.W
open Sem (wp)
section
variable {prog:Program} {w:World} {A:Around} {E:Value→Shared→Prop} {s:Shared}
theorem Z0a {it l:Addr} {i:Nat} {items} {x:Value} {Q:Value→Shared→Prop} (hit:s.heap.IsTupleIter it l i)
  (hl:s.heap.IsTuple l items) (hx:items[i]?=some x)
  (hQ:∀ h',h'.IsTupleIter it l (i+1)→Heap.SameBut it s.heap h'→Q x { s with heap:=h' }) :
  wpAny (model prog w) A (Builtin.SmallTypes.nextOf (.ref it)) Q E s:=by
 obtain ⟨o,ho,hc,hd⟩:=id hit
 obtain ⟨ol,hol,_,nl,hdl⟩:=hl
 unfold Builtin.SmallTypes.nextOf
 refine wpAny_bind (wpAny_callSpecial?_slot (name:=Str.ofString "__next__") hit.typeIs F.slot_tuple_iterator_next
  (wpAny_call_entry F.slot_tuple_iterator_next hit.typeIs F.entry_tuple_iterator_next ?_ (F.args_tuple_iterator_next_1 _)))
 show wpAny _ _ (field (.ref it) 0 >>= _) _ _ s
 refine wpAny_bind (wpAny_field ho hd (x:=.ref l) rfl ?_)
 show wpAny _ _ (if (Value.ref l==Value.none)=true then _ else _) _ _ s
 rw[if_neg (show ¬ ((Value.ref l==Value.none)=true) from Bool.false_ne_true)]
 show wpAny _ _ (field (.ref it) 1 >>= _) _ _ s
 refine wpAny_bind (wpAny_field ho hd (x:=.int i 0) rfl ?_)
 show wpAny _ _ (seqItems? (.ref l) >>= _) _ _ s
 refine wpAny_bind (wpAny_seqItems hol hdl ?_)
 simp only[Int.toNat_natCast,hx]
 refine wpAny_bind (wpAny_setField ho hd (by simp) (wpAny_pure ⟨x,rfl,wpAny_pure (hQ _ ?_ (Heap.SameBut.update ..))⟩))
 exact ⟨_,Heap.get?_update_self _ ho (Obj.isFreed_of_fields (Obj.data_mapFields hd _)),(Obj.cls_mapFields ..).trans hc,by
  rw[Obj.data_mapFields hd];simp[rawInt]⟩
theorem Z66 {it l:Addr} {i:Nat} {items} {Q:Value→Shared→Prop} (hh:A.handled=none)
  (hit:s.heap.IsTupleIter it l i) (hl:s.heap.IsTuple l items) (hx:items[i]?=none)
  (hE:∀ h' e,Heap.ExtBut it s.heap h'→(∃ o,h'.get? e=some o∧o.cls=.type "StopIteration")→E (.ref e) { s with heap:=h' }) :
  wpAny (model prog w) A (Builtin.SmallTypes.nextOf (.ref it)) Q E s:=by
 obtain ⟨o,ho,hc,hd⟩:=id hit
 obtain ⟨ol,hol,_,nl,hdl⟩:=hl
 unfold Builtin.SmallTypes.nextOf
 refine wpAny_bind (wpAny_callSpecial?_slot (name:=Str.ofString "__next__") hit.typeIs F.slot_tuple_iterator_next
  (wpAny_call_entry F.slot_tuple_iterator_next hit.typeIs F.entry_tuple_iterator_next ?_ (F.args_tuple_iterator_next_1 _)))
 show wpAny _ _ (field (.ref it) 0 >>= _) _ _ s
 refine wpAny_bind (wpAny_field ho hd (x:=.ref l) rfl ?_)
 show wpAny _ _ (if (Value.ref l==Value.none)=true then _ else _) _ _ s
 rw[if_neg (show ¬ ((Value.ref l==Value.none)=true) from Bool.false_ne_true)]
 show wpAny _ _ (field (.ref it) 1 >>= _) _ _ s
 refine wpAny_bind (wpAny_field ho hd (x:=.int i 0) rfl ?_)
 show wpAny _ _ (seqItems? (.ref l) >>= _) _ _ s
 refine wpAny_bind (wpAny_seqItems hol hdl ?_)
 simp only[Int.toNat_natCast,hx]
 refine wpAny_bind (wpAny_rule (wpAny_bind (wpAny_setField ho hd (by simp) ?_)))
 show wpAny _ _ (newExc (.type "StopIteration") [] >>= _) _ _ _
 refine wpAny_bind ?_
 simp only[newExc,newTuple]
 refine wpAny_bind (wpAny_newObj_type ?_ (by size_fits))
 refine wpAny_bind (m:=firstArgMember _ _) (wpAny_of_eq (a:=Value.none) (by first | rfl | (simp only[firstArgMember];rfl)) ?_)
 refine wpAny_newObj_type ?_ (by size_fits)
 simp only[raiseNew]
 refine wpAny_bind (wpAny_handled ?_)
 first | rw[show A.in1.handled=none from hh] | rw[hh]
 refine wpAny_bind (wpAny_pure (wpAny_throw ?_))
 exact hE _ _ (((Heap.SameBut.update ..).extBut.push _).push _) ⟨_,Heap.get?_push_size _ rfl,rfl⟩
theorem Z5p {z TI TO i1 i2 l1 l2:Addr} {k1 k2:Nat} {xs ys:Array Value} {x y a b:Value} {Q:Value→Shared→Prop} (D:ZipApart z TI TO i1 i2 l1 l2)
  (hz:IsZip s.heap z TI TO .none) (hTI:IsPair s.heap TI (.ref i1) (.ref i2)) (hTO:IsPair s.heap TO a b)
  (h1:s.heap.IsTupleIter i1 l1 k1) (h2:s.heap.IsListIter i2 l2 k2) (hl1:s.heap.IsTuple l1 xs) (hl2:s.heap.IsList l2 ys) (hx:xs[k1]?=some x) (hy:ys[k2]?=some y)
  (hQ:∀ h',IsZip h' z TI TO (rawInt s.heap.objs.size)→IsPair h' TO x y→h'.IsTupleIter i1 l1 (k1+1)→h'.IsListIter i2 l2 (k2+1)→IsPair h' s.heap.objs.size x y→h'.objs.size=s.heap.objs.size+1 →
   (∀ c o,c≠z→c≠TO→c≠i1→c≠i2→s.heap.get? c=some o→h'.get? c=some o)→Q (.ref s.heap.objs.size) { s with heap:=h' }) :
  wpAny (model prog w) A (Builtin.«zip.__next__» ⟨[.ref z],[]⟩) (fun fin s'=>∃ v,fin=.done (.ret v)∧Q v s') E s:=by
 show wpAny _ _ (field (.ref z) 2 >>= _) _ _ _
 refine wpAny_bind (wpAny_field hz rfl (x:=.bool false) rfl ?_)
 show wpAny _ _ (field (.ref z) 3 >>= _) _ _ _
 refine wpAny_bind (wpAny_field hz rfl (x:=.ref TI) rfl ?_)
 refine wpAny_bind (wpAny_seqItems hTI rfl ?_)
 show wpAny _ _ (Builtin.SmallTypes.ownedTupleIsFree (.ref z) >>= _) _ _ _
 refine wpAny_bind ?_
 unfold Builtin.SmallTypes.ownedTupleIsFree
 refine wpAny_bind (wpAny_field hz rfl (x:=.none) rfl (wpAny_pure ?_))
 simp only[if_true]
 refine wpAny_bind (wpAny_rule ?_)
 refine wpAny_bind (wpAny_field hz rfl (x:=.ref TO) rfl ?_)
 refine wpAny_bind (wpAny_setField_rec hz (by simp) fun h₁ hz₁ hs₁=>?_)
 replace hz₁:IsZip h₁ z TI TO .ellipsis:=hz₁
 refine wpAny_bind ?_
 simp only[List.zipIdx_cons,List.zipIdx_nil,List.forIn_cons,List.forIn_nil]
 refine wpAny_bind (wpAny_bind (wpAny_onRaise ?_))
 show wpAny _ _ (Builtin.SmallTypes.nextOf (.ref i1) >>= _) _ _ _
 refine wpAny_bind (Z0a (h1.extBut hs₁.extBut D.i1z) (hl1.extBut hs₁.extBut D.l1z) hx fun h₂ h1₂ hs₂=>wpAny_pure ?_)
 have hTO₂:IsPair h₂ TO a b:=hs₂.extBut _ _ D.TOi1 (hs₁.extBut _ _ D.TOz hTO)
 refine wpAny_bind (wpAny_seqItems hTO₂ rfl ?_)
 refine wpAny_bind (wpAny_updateSeq_pair hTO₂ fun h₃ hTO₃ hs₃=>?_)
 replace hTO₃:IsPair h₃ TO x b:=hTO₃
 refine wpAny_bind (wpAny_letGo (wpAny_pure ?_))
 refine wpAny_bind (wpAny_bind (wpAny_onRaise ?_))
 show wpAny _ _ (Builtin.SmallTypes.nextOf (.ref i2) >>= _) _ _ _
 refine wpAny_bind (wpAny_nextOf_list_item (((h2.extBut hs₁.extBut D.i2z).extBut hs₂.extBut D.i12.symm).extBut hs₃.extBut D.TOi2.symm)
  (((hl2.extBut hs₁.extBut D.l2z).extBut hs₂.extBut D.l2i1).extBut hs₃.extBut D.l2TO) hy fun h₄ h2₄ hs₄=>wpAny_pure ?_)
 have hTO₄:IsPair h₄ TO x b:=hs₄.extBut _ _ D.TOi2 hTO₃
 refine wpAny_bind (wpAny_seqItems hTO₄ rfl ?_)
 refine wpAny_bind (wpAny_updateSeq_pair hTO₄ fun h₅ hTO₅ hs₅=>?_)
 replace hTO₅:IsPair h₅ TO x y:=hTO₅
 refine wpAny_bind (wpAny_letGo (wpAny_pure (wpAny_pure ?_)))
 refine wpAny_bind (wpAny_seqItems hTO₅ rfl ?_)
 refine wpAny_bind (wpAny_newTuple ?_)
 have hsz:h₅.objs.size=s.heap.objs.size:=by rw[hs₅.1,hs₄.1,hs₃.1,hs₂.1,hs₁.1]
 have hz₅:IsZip h₅ z TI TO .ellipsis:=hs₅.extBut _ _ D.TOz.symm (hs₄.extBut _ _ D.i2z.symm (hs₃.extBut _ _ D.TOz.symm (hs₂.extBut _ _ D.i1z.symm hz₁)))
 have hk₅:∀ c o,c≠z→c≠TO→c≠i1→c≠i2→s.heap.get? c=some o→h₅.get? c=some o:=fun c o c1 c2 c3 c4 e=>
  hs₅.extBut _ _ c2 (hs₄.extBut _ _ c4 (hs₃.extBut _ _ c2 (hs₂.extBut _ _ c3 (hs₁.extBut _ _ c1 e))))
 have h1₅:h₅.IsTupleIter i1 l1 (k1+1):=((h1₂.extBut hs₃.extBut D.TOi1.symm).extBut hs₄.extBut D.i12).extBut hs₅.extBut D.TOi1.symm
 have h2₅:h₅.IsListIter i2 l2 (k2+1):=h2₄.extBut hs₅.extBut D.TOi2.symm
 have hzlt:z<h₅.objs.size:=Heap.lt_size hz₅
 have hTOlt:TO<h₅.objs.size:=Heap.lt_size hTO₅
 have hi1lt:i1<h₅.objs.size:=by obtain ⟨_,e,_⟩:=h1₅;exact Heap.lt_size e
 have hi2lt:i2<h₅.objs.size:=by obtain ⟨_,e,_⟩:=h2₅;exact Heap.lt_size e
 show wpAny _ _ (Builtin.SmallTypes.ownedTupleHandOut (.ref z) (.ref h₅.objs.size) >>= _) _ _ _
 refine wpAny_bind ?_
 unfold Builtin.SmallTypes.ownedTupleHandOut
 have hz₆:IsZip (h₅.push { cls:=.type "tuple",data:=.seq #[x,y] }) z TI TO .ellipsis:=Heap.get?_push_of_some _ hz₅
 refine wpAny_bind (wpAny_setField_rec hz₆ (by simp) fun h₇ hz₇ hs₇=>?_)
 replace hz₇:IsZip h₇ z TI TO (rawInt h₅.objs.size):=hz₇
 refine wpAny_setField_rec hz₇ (by simp) fun h₈ hz₈ hs₈=>?_
 replace hz₈:IsZip h₈ z TI TO (rawInt h₅.objs.size):=hz₈
 have up:∀ c o,c≠z→h₅.get? c=some o→h₈.get? c=some o:=fun c o c1 e=>hs₈.extBut _ _ c1 (hs₇.extBut _ _ c1 (Heap.get?_push_of_some _ e))
 have hT₈:IsPair h₈ h₅.objs.size x y:=hs₈.extBut _ _ (Nat.ne_of_gt hzlt) (hs₇.extBut _ _ (Nat.ne_of_gt hzlt) (Heap.get?_push_size _ rfl))
 have hz8:h₈.objs.size=h₅.objs.size+1:=by rw[hs₈.1,hs₇.1,Heap.size_push]
 rw[hsz] at hz₈ hT₈ hz8
 refine wpAny_pure ⟨_,rfl,?_⟩
 show Q (.ref h₅.objs.size) _
 rw[hsz]
 exact hQ h₈ hz₈ (up _ _ D.TOz hTO₅) (let ⟨o,e,r⟩:=h1₅;⟨o,up _ o D.i1z e,r⟩) (h2₅.at fun o e=>up _ o D.i2z e) hT₈ hz8 fun c o c1 c2 c3 c4 e=>up c o c1 (hk₅ c o c1 c2 c3 c4 e)
theorem Z7d {z TI TO i1 i2 l1 l2:Addr} {k1 k2:Nat} {xs ys:Array Value} {a b:Value} {Q:Fin→Shared→Prop} (hh:A.handled=none) (D:ZipApart z TI TO i1 i2 l1 l2)
  (hz:IsZip s.heap z TI TO .none) (hTI:IsPair s.heap TI (.ref i1) (.ref i2)) (hTO:IsPair s.heap TO a b)
  (h1:s.heap.IsTupleIter i1 l1 k1) (h2:s.heap.IsListIter i2 l2 k2) (hl1:s.heap.IsTuple l1 xs) (hl2:s.heap.IsList l2 ys) (hend:xs[k1]?=none∨ys[k2]?=none)
  (hE:∀ h' e,(∀ c o,c≠z→c≠TO→c≠i1→c≠i2→s.heap.get? c=some o→h'.get? c=some o)→(∃ o,h'.get? e=some o∧o.cls=.type "StopIteration")→E (.ref e) { s with heap:=h' }) :
  wpAny (model prog w) A (Builtin.«zip.__next__» ⟨[.ref z],[]⟩) Q E s:=by
 show wpAny _ _ (field (.ref z) 2 >>= _) _ _ _
 refine wpAny_bind (wpAny_field hz rfl (x:=.bool false) rfl ?_)
 show wpAny _ _ (field (.ref z) 3 >>= _) _ _ _
 refine wpAny_bind (wpAny_field hz rfl (x:=.ref TI) rfl ?_)
 refine wpAny_bind (wpAny_seqItems hTI rfl ?_)
 show wpAny _ _ (Builtin.SmallTypes.ownedTupleIsFree (.ref z) >>= _) _ _ _
 refine wpAny_bind ?_
 unfold Builtin.SmallTypes.ownedTupleIsFree
 refine wpAny_bind (wpAny_field hz rfl (x:=.none) rfl (wpAny_pure ?_))
 simp only[if_true]
 refine wpAny_bind (wpAny_rule ?_)
 refine wpAny_bind (wpAny_field hz rfl (x:=.ref TO) rfl ?_)
 refine wpAny_bind (wpAny_setField_rec hz (by simp) fun h₁ hz₁ hs₁=>?_)
 replace hz₁:IsZip h₁ z TI TO .ellipsis:=hz₁
 refine wpAny_bind ?_
 simp only[List.zipIdx_cons,List.zipIdx_nil,List.forIn_cons,List.forIn_nil]
 refine wpAny_bind (wpAny_bind (wpAny_onRaise ?_))
 show wpAny _ _ (Builtin.SmallTypes.nextOf (.ref i1) >>= _) _ _ _
 cases hx:xs[k1]? with
 | none=>
  refine wpAny_bind (Z66 hh (h1.extBut hs₁.extBut D.i1z) (hl1.extBut hs₁.extBut D.l1z) hx fun h₂ e hs₂ he=>?_)
  obtain ⟨oe,hoe,hce⟩:=he
  have hz₂:IsZip h₂ z TI TO .ellipsis:=hs₂ _ _ D.i1z.symm hz₁
  have hez:e≠z:=fun x=>by subst x;rw[hz₂] at hoe;cases hoe;simp at hce
  refine wpAny_setField_rec hz₂ (by simp) fun h₃ _ hs₃=>hE h₃ e (fun c o c1 _ c3 _ x=>hs₃.extBut _ _ c1 (hs₂ _ _ c3 (hs₁.extBut _ _ c1 x))) ⟨oe,hs₃.extBut _ _ hez hoe,hce⟩
 | some x=>
  have hy:ys[k2]?=none:=by rcases hend with h | h;rw[hx] at h;cases h;exact h
  refine wpAny_bind (Z0a (h1.extBut hs₁.extBut D.i1z) (hl1.extBut hs₁.extBut D.l1z) hx fun h₂ h1₂ hs₂=>wpAny_pure ?_)
  have hTO₂:IsPair h₂ TO a b:=hs₂.extBut _ _ D.TOi1 (hs₁.extBut _ _ D.TOz hTO)
  refine wpAny_bind (wpAny_seqItems hTO₂ rfl ?_)
  refine wpAny_bind (wpAny_updateSeq_pair hTO₂ fun h₃ hTO₃ hs₃=>?_)
  refine wpAny_bind (wpAny_letGo (wpAny_pure ?_))
  refine wpAny_bind (wpAny_bind (wpAny_onRaise ?_))
  show wpAny _ _ (Builtin.SmallTypes.nextOf (.ref i2) >>= _) _ _ _
  refine wpAny_bind (wpAny_nextOf_list_end hh (((h2.extBut hs₁.extBut D.i2z).extBut hs₂.extBut D.i12.symm).extBut hs₃.extBut D.TOi2.symm)
   (((hl2.extBut hs₁.extBut D.l2z).extBut hs₂.extBut D.l2i1).extBut hs₃.extBut D.l2TO) hy fun h₄ e hs₄ he=>?_)
  obtain ⟨oe,hoe,hce⟩:=he
  have hz₄:IsZip h₄ z TI TO .ellipsis:=hs₄ _ _ D.i2z.symm (hs₃.extBut _ _ D.TOz.symm (hs₂.extBut _ _ D.i1z.symm hz₁))
  have hez:e≠z:=fun x=>by subst x;rw[hz₄] at hoe;cases hoe;simp at hce
  refine wpAny_setField_rec hz₄ (by simp) fun h₅ _ hs₅=>hE h₅ e (fun c o c1 c2 c3 c4 x=>hs₅.extBut _ _ c1 (hs₄ _ _ c4 (hs₃.extBut _ _ c2 (hs₂.extBut _ _ c3 (hs₁.extBut _ _ c1 x))))) ⟨oe,hs₅.extBut _ _ hez hoe,hce⟩
theorem Z3q {z TI TO i1 i2 l1 l2:Addr} {k1 k2:Nat} {xs ys:Array Value} {x y a b:Value} {Q:Option Value→Shared→Prop} (D:ZipApart z TI TO i1 i2 l1 l2)
  (hz:IsZip s.heap z TI TO .none) (hTI:IsPair s.heap TI (.ref i1) (.ref i2)) (hTO:IsPair s.heap TO a b)
  (h1:s.heap.IsTupleIter i1 l1 k1) (h2:s.heap.IsListIter i2 l2 k2) (hl1:s.heap.IsTuple l1 xs) (hl2:s.heap.IsList l2 ys) (hx:xs[k1]?=some x) (hy:ys[k2]?=some y)
  (hQ:∀ h',IsZip h' z TI TO (rawInt s.heap.objs.size)→IsPair h' TO x y→h'.IsTupleIter i1 l1 (k1+1)→h'.IsListIter i2 l2 (k2+1)→IsPair h' s.heap.objs.size x y→h'.objs.size=s.heap.objs.size+1 →
   (∀ c o,c≠z→c≠TO→c≠i1→c≠i2→s.heap.get? c=some o→h'.get? c=some o)→Q (some (.ref s.heap.objs.size)) { s with heap:=h' }) :
  wpAny (model prog w) A (pyNext (.ref z)) Q E s:=by
 have hT:s.TypeIs (.ref z) "zip" := ⟨_,hz,rfl⟩
 unfold pyNext
 exact wpAny_bind (wpAny_attempt (wpAny_callSpecial?_slot (name:=Str.ofString "__next__") hT F.slot_zip_next
  (wpAny_call_entry F.slot_zip_next hT F.entry_zip_next
   (Z5p D hz hTI hTO h1 h2 hl1 hl2 hx hy fun h' a1 a2 a3 a4 a5 a6 a7=>wpAny_pure (hQ h' a1 a2 a3 a4 a5 a6 a7)) (F.args_zip_next_1 _))))
theorem Z4p {z TI TO i1 i2 l1 l2:Addr} {k1 k2:Nat} {xs ys:Array Value} {a b:Value} {Q:Option Value→Shared→Prop} (hh:A.handled=none) (D:ZipApart z TI TO i1 i2 l1 l2)
  (hz:IsZip s.heap z TI TO .none) (hTI:IsPair s.heap TI (.ref i1) (.ref i2)) (hTO:IsPair s.heap TO a b)
  (h1:s.heap.IsTupleIter i1 l1 k1) (h2:s.heap.IsListIter i2 l2 k2) (hl1:s.heap.IsTuple l1 xs) (hl2:s.heap.IsList l2 ys) (hend:xs[k1]?=none∨ys[k2]?=none)
  (hQ:∀ h',(∀ c o,c≠z→c≠TO→c≠i1→c≠i2→s.heap.get? c=some o→h'.get? c=some o)→Q none { s with heap:=h' }):wpAny (model prog w) A (pyNext (.ref z)) Q E s:=by
 have hT:s.TypeIs (.ref z) "zip" := ⟨_,hz,rfl⟩
 unfold pyNext
 refine wpAny_bind (wpAny_attempt (wpAny_callSpecial?_slot (name:=Str.ofString "__next__") hT F.slot_zip_next
  (wpAny_call_entry F.slot_zip_next hT F.entry_zip_next (Z7d hh D hz hTI hTO h1 h2 hl1 hl2 hend fun h' e hk he=>?_) (F.args_zip_next_1 _))))
 obtain ⟨o,ho,hc⟩:=he
 refine wpAny_bind (wpAny_isInstance (T := "StopIteration") (b:=true) ⟨o,ho,hc⟩ isSubtype_stop ?_)
 exact wpAny_pure (hQ _ hk)
end
abbrev zipT1 (h:Heap) (l1:Addr):Heap:=h.push { cls:=.type "tuple_iterator",data:=.fields #[.ref l1,.int 0 0] }
abbrev zipT2 (h:Heap) (l1 l2:Addr):Heap:=(zipT1 h l1).push { cls:=.type "list_iterator",data:=.fields #[.ref l2,.int 0 0] }
abbrev zipT3 (h:Heap) (l1 l2:Addr):Heap:=(zipT2 h l1 l2).push { cls:=.type "tuple",data:=.seq #[.ref h.objs.size,.ref (zipT1 h l1).objs.size] }
abbrev zipT4 (h:Heap) (l1 l2:Addr):Heap:=(zipT3 h l1 l2).push { cls:=.type "tuple",data:=.seq #[.none,.none] }
abbrev zipT5 (h:Heap) (l1 l2:Addr):Heap:=(zipT4 h l1 l2).push { cls:=.type "zip",data:=.fields #[.none,.bool false,.bool false,.ref (zipT2 h l1 l2).objs.size,.ref (zipT3 h l1 l2).objs.size] }
theorem Z68 (l1 l2:Addr) (xs ys:Array Value) :
  Meets (Builtin.«zip.__new__» ⟨[.type "zip",.ref l1,.ref l2],[]⟩) (fun _ R s=>s.heap.IsTuple l1 xs∧s.heap.IsList l2 ys ∧
   R (.ok (.ret (.ref (zipT4 s.heap l1 l2).objs.size))) { s with heap:=zipT5 s.heap l1 l2 }):=
 .of_wp fun prog w A R s h=>by
  obtain ⟨hp,g,d,tk,os⟩:=s;obtain ⟨hl1,hl2,h⟩:=h
  have hsub:=sub_zip
  have hL1:Heap.IsTuple (Shared.heap ⟨hp,g,d,tk,os⟩) l1 xs:=hl1
  have hL2:Heap.IsList (Shared.heap ⟨hp.push { cls:=.type "tuple_iterator",data:=.fields #[.ref l1,.int 0 0] },g,d,tk,os⟩) l2 ys:=Heap.IsList.push hl2 _
  wp_walk using wpAny_pyIter_tuple hL1,wpAny_pyIter_list hL2
  exact ⟨_,rfl,h⟩
section
variable {prog:Program} {w:World} {A:Around} {E:Value→Shared→Prop} {s:Shared}
theorem Zb7 {l1 l2:Addr} {xs ys:Array Value} {Q:Value→Shared→Prop} (hl1:s.heap.IsTuple l1 xs) (hl2:s.heap.IsList l2 ys)
  (h:∀ h',IsZip h' (s.heap.objs.size+4) (s.heap.objs.size+2) (s.heap.objs.size+3) .none→IsPair h' (s.heap.objs.size+2) (.ref s.heap.objs.size) (.ref (s.heap.objs.size+1)) →
   IsPair h' (s.heap.objs.size+3) .none .none→h'.IsTupleIter s.heap.objs.size l1 0→h'.IsListIter (s.heap.objs.size+1) l2 0→h'.objs.size=s.heap.objs.size+5 →
   (∀ c o,s.heap.get? c=some o→h'.get? c=some o)→Q (.ref (s.heap.objs.size+4)) { s with heap:=h' }) :
  wpAny (model prog w) A (call (.type "zip") [.ref l1,.ref l2]) Q E s:=by
 refine callType_new F.called_zip (by decide) (F.typeCall_zip_2 _ _) (F.newCall_zip_2 _ _) (fun obj=>F.args_object_init_3 obj _ _) F.entry_zip_new
  (Z68 l1 l2 xs ys) ⟨hl1,hl2,?_⟩
 have z1:(zipT1 s.heap l1).objs.size=s.heap.objs.size+1:=Heap.size_push ..
 have z2:(zipT2 s.heap l1 l2).objs.size=s.heap.objs.size+2:=by rw[Heap.size_push,z1]
 have z3:(zipT3 s.heap l1 l2).objs.size=s.heap.objs.size+3:=by rw[Heap.size_push,z2]
 have z4:(zipT4 s.heap l1 l2).objs.size=s.heap.objs.size+4:=by rw[Heap.size_push,z3]
 have z5:(zipT5 s.heap l1 l2).objs.size=s.heap.objs.size+5:=by rw[Heap.size_push,z4]
 have g5:(zipT5 s.heap l1 l2).get? (zipT4 s.heap l1 l2).objs.size=some _:=Heap.get?_push_size _ rfl
 have g4:(zipT5 s.heap l1 l2).get? (zipT3 s.heap l1 l2).objs.size=some _:=Heap.get?_push_of_some _ (Heap.get?_push_size _ rfl)
 have g3:(zipT5 s.heap l1 l2).get? (zipT2 s.heap l1 l2).objs.size=some _:=Heap.get?_push_of_some _ (Heap.get?_push_of_some _ (Heap.get?_push_size _ rfl))
 have g2:(zipT5 s.heap l1 l2).get? (zipT1 s.heap l1).objs.size=some _:=Heap.get?_push_of_some _ (Heap.get?_push_of_some _ (Heap.get?_push_of_some _ (Heap.get?_push_size _ rfl)))
 have g1:(zipT5 s.heap l1 l2).get? s.heap.objs.size=some _:=Heap.get?_push_of_some _ (Heap.get?_push_of_some _ (Heap.get?_push_of_some _ (Heap.get?_push_of_some _ (Heap.get?_push_size _ rfl))))
 show _∧_
 rw[z2,z3,z4] at g5
 rw[z1,z2] at g3
 rw[z3] at g4
 rw[z1] at g2
 rw[z4]
 exact ⟨⟨_,g5,rfl⟩,h _ g5 g3 g4 ⟨_,g1,rfl,rfl⟩ ⟨_,g2,rfl,rfl⟩ z5 fun c o x=>
  Heap.get?_push_of_some _ (Heap.get?_push_of_some _ (Heap.get?_push_of_some _ (Heap.get?_push_of_some _ (Heap.get?_push_of_some _ x))))⟩
end
def Itzt (K:PySem.W.Frag) (a b:Addr):It:=
 ⟨fun i H=>∃ (xs ys:List V) (x y:V),SqT K H a xs∧SqL K H b ys∧xs[i]?=some x∧ys[i]?=some y,
  fun i H v H'=>∃ T x y,v=.ref T∧H T=none∧H'=upd H T (.tup [x,y])∧(∀ xs,SqT K H a xs→xs[i]?=some x)∧∀ ys,SqL K H b ys→ys[i]?=some y,
  fun i H=>∃ xs ys:List V,SqT K H a xs∧SqL K H b ys∧(xs.length≤i∨ys.length≤i)⟩
theorem Ze2 {P:Program} {w:World} {K:PySem.W.Frag} {elts:List Expr} {kk:Nat} {tpos:Pos} {a b z TI TO i1 i2:Addr} (D:ZipApart z TI TO i1 i2 a b) :
  Turn P w K (.Tuple elts kk tpos) (Itzt K a b) [z,TI,TO,i1,i2] z (fun i h=>IsZip h z TI TO .none∧IsPair h TI (.ref i1) (.ref i2)∧(∃ x y,IsPair h TO x y)∧h.IsTupleIter i1 a i∧h.IsListIter i2 b i) where
 mem:=by simp
 obj:=fun i h st c hc=>by
  obtain ⟨hz,hTI,⟨x,y,hTO⟩,⟨o1,e1,_,d1⟩,⟨o2,e2,_,d2⟩⟩:=st
  have e':c=z∨c=TI∨c=TO∨c=i1∨c=i2:=by simpa using hc
  rcases e' with q | q | q | q | q
  ·rw[q];exact ⟨_,hz,fun v q=>nomatch q⟩
  ·rw[q];exact ⟨_,hTI,fun v q=>nomatch q⟩
  ·rw[q];exact ⟨_,hTO,fun v q=>nomatch q⟩
  ·rw[q];exact ⟨o1,e1,fun v q=>by rw[d1] at q;cases q⟩
  ·rw[q];exact ⟨o2,e2,fun v q=>by rw[d2] at q;cases q⟩
 keep:=fun i h h' st k=>by
  obtain ⟨hz,hTI,⟨x,y,hTO⟩,h1,h2⟩:=st
  exact ⟨k z (by simp) _ hz,k TI (by simp) _ hTI,⟨x,y,k TO (by simp) _ hTO⟩,(let ⟨o,q,r⟩:=h1;⟨o,k i1 (by simp) o q,r⟩),h2.at fun o q=>k i2 (by simp) o q⟩
 item:=by
  intro X hP hw hK hc i pins s σ H E I hf st hg
  subst hP hw hK
  obtain ⟨hz,hTI,⟨x0,y0,hTO⟩,h1,h2⟩:=st
  obtain ⟨xs,ys,x,y,hqx,hqy,hx,hy⟩:=hg
  obtain ⟨its,rv,p,_⟩:=I.tuple hqx
  obtain ⟨its2,rv2,p2,_⟩:=I.list hqy
  obtain ⟨u,hu,ru⟩:=rv.get hx
  obtain ⟨u2,hu2,ru2⟩:=rv2.get hy
  have hzl:z<s.heap.objs.size:=Heap.lt_size hz
  refine Z3q D hz hTI hTO h1 h2 p p2.isList (x:=u) (y:=u2) (by simpa using hu) (by simpa using hu2) fun h' z' TO' h1' h2' hT hsz hk=>?_
  refine ⟨_,rfl,wpAny_letOwnedTupleGo_zip (s:={ s with heap:=h' }) z' fun h'' z'' sb=>?_⟩
  have hT2:h''.get? s.heap.objs.size=some { cls:=.type "tuple",data:=.seq #[u,u2] }:=(sb.2 _ (Nat.ne_of_gt hzl)).trans hT
  have new:ObjOk X.prog X.w (upd H s.heap.objs.size (.tup [x,y])) h'' s.heap.objs.size (.tup [x,y]):=
   ⟨by show 2≤sizeLine;decide,[u,u2],.cons ru (.cons ru2 .nil),⟨_,hT2,rfl,_,rfl⟩⟩
  have I1:Inv X pins σ (upd H s.heap.objs.size (.tup [x,y])) { s with heap:=h'' }:=
   I.turnedNew (t':=s.toks) (ch:=[z,TI,TO,i1,i2]) (fun c o hb q=>(sb.2 c (fun q'=>hb (by simp[q']))).trans (hk c o (fun q'=>hb (by simp[q'])) (fun q'=>hb (by simp[q'])) (fun q'=>hb (by simp[q'])) (fun q'=>hb (by simp[q'])) q)) hf (Nat.le_refl _) new
  refine ⟨.ref s.heap.objs.size,_,I1,rfl,⟨_,x,y,rfl,I.hok.fresh (Nat.le_refl _),rfl,fun l hl=>by rw[I.tuple_inj hl hqx];exact hx,fun l hl=>by rw[I.list_inj hl hqy];exact hy⟩,⟨z'',?_,⟨u,u2,?_⟩,?_,?_⟩,fun c hcm=>?_⟩
  ·exact (sb.2 _ D.TIz).trans (hk _ _ D.TIz D.TITO D.TIi1 D.TIi2 hTI)
  ·exact (sb.2 _ D.TOz).trans TO'
  ·exact (let ⟨o,q,r⟩:=h1';⟨o,(sb.2 _ D.i1z).trans q,r⟩)
  ·exact h2'.at fun o q=>(sb.2 _ D.i2z).trans q
  ·have hlt:c<s.heap.objs.size:=by
    have e':c=z∨c=TI∨c=TO∨c=i1∨c=i2:=by simpa using hcm
    rcases e' with q | q | q | q | q
    ·rw[q];exact hzl
    ·rw[q];exact Heap.lt_size hTI
    ·rw[q];exact Heap.lt_size hTO
    ·rw[q];obtain ⟨_,e1,_⟩:=h1;exact Heap.lt_size e1
    ·rw[q];obtain ⟨_,e2,_⟩:=h2;exact Heap.lt_size e2
   rw[Z8 (Nat.ne_of_lt hlt)]
   exact (hf c hcm).1
 done:=by
  intro X hP hw hK hc i pins s σ H E I hf st hg
  subst hP hw hK
  obtain ⟨hz,hTI,⟨x0,y0,hTO⟩,h1,h2⟩:=st
  obtain ⟨xs,ys,hqx,hqy,hend⟩:=hg
  obtain ⟨its,rv,p,_⟩:=I.tuple hqx
  obtain ⟨its2,rv2,p2,_⟩:=I.list hqy
  have l1:=rv.length
  have l2:=rv2.length
  have he:its.toArray[i]?=none∨its2.toArray[i]?=none:=by
   rcases hend with q | q
   ·exact .inl (by simp;omega)
   ·exact .inr (by simp;omega)
  exact Z4p (I.ok.hd hc) D hz hTI hTO h1 h2 p p2.isList he fun h' hk=>⟨rfl,I.turnedL (t':=s.toks) (ch:=[z,TI,TO,i1,i2]) (fun c o hb q=>
   hk c o (fun q'=>hb (by simp[q'])) (fun q'=>hb (by simp[q'])) (fun q'=>hb (by simp[q'])) (fun q'=>hb (by simp[q'])) q) hf⟩
 self:=fun A i s Q E st h=>wpAny_pyIter_zip st.1 h
def iZipT (K:PySem.W.Frag) (ta:TA):TI:=fun σ H R=>ta σ H fun vs H1=>∃ a b xs ys,vs=[.ref a,.ref b]∧SqT K H1 a xs∧SqL K H1 b ys∧R (Itzt K a b) H1
theorem pi_zipT {X:Cx} {e e2:Expr} {ta:TA} {p pos tpos:Pos} {elts:List Expr} {kk:Nat} (hg:Gl X "zip") (hm:X.mg "zip" = none) (ha:PA X [e,e2] ta)
  (hs:starEach [e,e2] X.env=(false,eval e X.env)::starEach [e2] X.env:=by rfl) (hpl:(backTo pos (starEach [e2] X.env)).any (·.1)=false:=by rfl) :
  PI X (.Tuple elts kk tpos) (.Call (.Name "zip" p) [e,e2] [] pos) (iZipT X.K ta):=by
 intro pins s σ H R I h
 refine Call_ (Z58 I hg hm Zg7 (PyProof.Rows.callWith_type1 (thn (ha pos pins s σ H _ I h) fun us s1 ⟨vs,H1,I1,r1,q1⟩=>?_) hs hpl))
 obtain ⟨a,b,xs,ys,ex,hqx,hqy,q⟩:=q1
 subst ex
 cases r1 with
 | cons r rr=>
  cases rr with
  | cons r' rr=>
   cases rr
   cases r
   cases r'
   obtain ⟨its,rv,p1,_⟩:=I1.tuple hqx
   obtain ⟨its2,rv2,p2,_⟩:=I1.list hqy
   have la:a<s1.heap.objs.size:=p1.lt
   have lb:b<s1.heap.objs.size:=p2.lt
   refine Zb7 p1 p2.isList fun h' hz hTI hTO h1 h2 hsz hk=>wpAny_pyIter_zip hz ?_
   have I2:Inv X pins σ H1 { s1 with heap:=h' }:=I1.kept (t':=s1.toks) hk
   refine ⟨s1.heap.objs.size+4,[s1.heap.objs.size+4,s1.heap.objs.size+2,s1.heap.objs.size+3,s1.heap.objs.size,s1.heap.objs.size+1],_,_,H1,rfl,I2,Ze2 (PySem.W.ktu_apart s1.heap.objs.size a b la lb),⟨hz,hTI,⟨_,_,hTO⟩,h1,h2⟩,fun c hcm=>?_,q⟩
   have e':c=s1.heap.objs.size+4∨c=s1.heap.objs.size+2∨c=s1.heap.objs.size+3∨c=s1.heap.objs.size∨c=s1.heap.objs.size+1:=by simpa using hcm
   have hle:s1.heap.objs.size≤c:=by
    rcases e' with z | z | z | z | z
    ·rw[z];exact Nat.le_add_right _ _
    ·rw[z];exact Nat.le_add_right _ _
    ·rw[z];exact Nat.le_add_right _ _
    ·rw[z];exact Nat.le_refl _
    ·rw[z];exact Nat.le_add_right _ _
   exact I1.fpOk hle (I1.hok.fresh hle)
end L2
end
section
namespace L2
open PySem PySem.Spec PyProof.Rows PySem.W
section
variable {X:Cx} {CX:CXT} {k:Nat} {f:Addr} {fd:FuncData} {ps:List Str} {sp:Sp} {dvs:List V} {ds:List Value} {E:XK} {x:Str} {p pos:Pos} {e:Expr} {es:List Expr} {t:TA} {i:Nat}
theorem X0 (hv:PE X (.Name x p) (tVar i)) (F:FnOk X.prog X.w X.K X.mg X.base CX k f fd ps sp) (hr:Room k X.A) (hk:PySem.W.keepIn X.K (.ref f)=true) (hb:Binds X.K fd ps ds) (hd:Vals dvs ds) (hx:Passes CX X E)
  (ha:PA X (e::es) t) (he:starEach (e::es) X.env=(false,eval e X.env)::starEach es X.env:=by rfl) (hpl:(backTo pos (starEach es X.env)).any (·.1)=false:=by rfl) :
  PE X (.Call (.Name x p) (e::es) [] pos) (fun σ H Q=>σ[i]?=some (some (.ref f))∧t σ H fun vs H1=>sp (vs++dvs) H1 Q E):=by
 intro pins s σ H Q I h
 obtain ⟨h0,h⟩:=h
 refine wpAny_Call_Name_kw (thn (hv pins s σ H (fun v H1=>v=.ref f∧H1=H) I ⟨_,h0,rfl,rfl⟩) fun u s0 ⟨v,H0,I0,r0,e1,e2⟩=>?_)
 subst e1 e2
 obtain rfl:u=Value.ref f:=r0
 refine PySem.W.callWith_K (h₀:=X.base) I0.ok.mod.kin hk (thn (ha pos pins s0 σ H0 _ I0 h) fun us s1 ⟨vs,H1,I1,r,q⟩=>⟨I1.kIn,?_⟩) he hpl
 exact Zbi F hr hb hd hx I1 r q
end
noncomputable def ktRead (K:PySem.W.Frag) (a:Addr):Option (List V):=match K.lookup a with
 | some ⟨.type n,_,.seq its _,_⟩=>if n = "tuple" ∧ its.size≤1000 then its.toList.mapM absV else none
 | _=>none
noncomputable def kdRead (K:PySem.W.Frag) (a:Addr):Option (List (Int×V)):=match K.lookup a with
 | some ⟨.type n,none,.dict es _,sl⟩=>if n = "dict" ∧ sl.size=0∧(a==sysModules)=false then es.toList.mapM (fun e=>match e.key with
   | .int i _=>if e.hash=hashInt i then (absV e.val).map fun v=>(i,v) else none
   | _=>none) else none
 | _=>none
theorem Zgc {u:Value} {v:V} (h:absV u=some v):RelV v u:=by
 cases u <;> simp[absV] at h <;> subst h <;> first | rfl | exact ⟨_,rfl⟩
theorem Zbv:∀ {us:List Value} {vs:List V},us.mapM absV=some vs→Vals vs us
 | [],vs,h=>by
  simp at h
  subst h
  exact .nil
 | u::us,vs,h=>by
  rw[List.mapM_cons] at h
  cases e1:absV u with
  | none=>rw[e1] at h;simp at h
  | some v=>
   cases e2:us.mapM absV with
   | none=>rw[e1,e2] at h;simp at h
   | some r=>
    rw[e1,e2] at h
    have h:some (v::r)=some vs:=h
    cases h
    exact .cons (Zgc e1) (Zbv e2)
theorem Z0d {K:PySem.W.Frag} {H:Hp} {a:Addr} {xs:List V} (h:ktRead K a=some xs):SqT K H a xs:=by
 unfold ktRead at h
 split at h
 ·rename_i n d its m sl hl
  split at h
  ·rename_i hn
   refine .inr ⟨_,its,m,hl,by show Value.type n=_;rw[hn.1],rfl,?_,Zbv h⟩
   rw[sizeLine_eq]
   omega
  ·cases h
 ·cases h
structure KD (K:PySem.W.Frag) (a:Addr) (kvs:List (Int×V)):Prop where
 at_:∃ es n,K.lookup a=some ⟨.type "dict",none,.dict es n,#[]⟩∧Paired (fun (e:DictEntry) (p:Int×V)=>(∃ t,e.key=.int p.1 t)∧e.hash=hashInt p.1∧RelV p.2 e.val) es.toList kvs
 lo:(a==sysModules)=false
 nd:(kvs.map (·.1)).Nodup
theorem Z5b {K:PySem.W.Frag} {a:Addr} {kvs:List (Int×V)} (h:kdRead K a=some kvs) (hn:(kvs.map (·.1)).Nodup):KD K a kvs:=by
 have go:∀ {es:List DictEntry} {kvs:List (Int×V)},es.mapM (fun e=>match e.key with
   | .int i _=>if e.hash=hashInt i then (absV e.val).map fun v=>(i,v) else none
   | _=>none)=some kvs→Paired (fun (e:DictEntry) (p:Int×V)=>(∃ t,e.key=.int p.1 t)∧e.hash=hashInt p.1∧RelV p.2 e.val) es kvs:=by
  intro es
  induction es with
  | nil=>intro kvs h;simp at h;subst h;exact .nil
  | cons e es ih=>
   intro kvs h
   rw[List.mapM_cons] at h
   cases ek:e.key with
   | int i t=>
    rw[ek] at h
    dsimp only at h
    by_cases eh:e.hash=hashInt i
    ·rw[if_pos eh] at h
     cases ev:absV e.val with
     | none=>rw[ev] at h;simp at h
     | some v=>
      rw[ev] at h
      cases er:es.mapM (fun e=>match e.key with
        | .int i _=>if e.hash=hashInt i then (absV e.val).map fun v=>(i,v) else none
        | _=>none) with
      | none=>rw[er] at h;simp at h
      | some r=>
       rw[er] at h
       have h:some ((i,v)::r)=some kvs:=h
       cases h
       exact .cons ⟨⟨t,ek⟩,eh,Zgc ev⟩ (ih er)
    ·rw[if_neg eh] at h
     simp at h
   | _=>rw[ek] at h;simp at h
 unfold kdRead at h
 split at h
 ·rename_i n es m sl hl
  split at h
  ·rename_i hc
   obtain ⟨h1,h2,h3⟩:=hc
   subst h1
   have h2:sl=#[]:=Array.eq_empty_of_size_eq_zero h2
   subst h2
   exact ⟨⟨es,m,hl,go h⟩,h3,hn⟩
  ·cases h
 ·cases h
theorem KD.map {K:PySem.W.Frag} {a:Addr} {kvs:List (Int×V)} {P:Program} {w:World} {h:Heap} (D:KD K a kvs) (KX:K.In h):∃ g,h.MapOf (PySem.intKind P w) a g∧∀ i,RelO (kvs.lookup i) (g i):=by
 obtain ⟨es,n,hl,pr⟩:=D.at_
 refine ⟨fun k=>findBy Value.isInt es k,⟨_,es,n,KX _ _ hl,⟨rfl,rfl,rfl⟩,rfl,fun e he=>?_,fun _=>rfl⟩,fun i=>?_⟩
 ·have he:e∈es.toList:=by simpa using he
  have:∀ {l:List DictEntry} {m:List (Int×V)},Paired (fun (e:DictEntry) (p:Int×V)=>(∃ t,e.key=.int p.1 t)∧e.hash=hashInt p.1∧RelV p.2 e.val) l m→e∈l→∃ i t,e.key=.int i t∧e.hash=hashInt i:=by
   intro l m q
   induction q with
   | nil=>intro h;exact nomatch h
   | @cons x y xs ys r t ih=>
    intro h
    rcases List.mem_cons.mp h with rfl | h
    ·obtain ⟨⟨t,e1⟩,e2,_⟩:=r
     exact ⟨y.1,t,e1,e2⟩
    ·exact ih h
  obtain ⟨i,t,e1,e2⟩:=this pr he
  exact ⟨i,by rw[e1];show Value.isInt i (Value.int i t)=true;simp[Value.isInt],e2⟩
 ·have:∀ {l:List DictEntry} {m:List (Int×V)},Paired (fun (e:DictEntry) (p:Int×V)=>(∃ t,e.key=.int p.1 t)∧e.hash=hashInt p.1∧RelV p.2 e.val) l m→RelO (m.lookup i) ((l.find? fun e=>Value.isInt i e.key).map (·.val)):=by
   intro l m q
   induction q with
   | nil=>exact True.intro
   | @cons x y xs ys r t ih=>
    obtain ⟨⟨t,e1⟩,_,rv⟩:=r
    obtain ⟨j,v⟩:=y
    rw[List.lookup_cons,List.find?_cons,e1]
    by_cases q:i=j
    ·subst q
     rw[beq_self_eq_true,show Value.isInt i (Value.int i t)=true by simp[Value.isInt]]
     exact rv
    ·rw[show (i==j)=false from beq_eq_false_iff_ne.mpr q,show Value.isInt i (Value.int j t)=false by simp[Value.isInt];exact fun z=>q z.symm]
     exact ih
  have q:=this pr
  show RelO (kvs.lookup i) (findBy Value.isInt es i)
  unfold findBy
  rw[← Array.find?_toList]
  exact q
section
variable {X:Cx} {o i:Expr} {pos:Pos} {ty:TE} {a:Addr} {kvs:List (Int×V)} {x:Str} {p:Pos}
theorem Z87 (D:KD X.K a kvs) (hg:Gl X x) (hm:X.mg x=some (.ref a)) (hi:PE X i ty) (hs:NoSl i) (hdb:(x==("__debug__" : Str))=false:=by decide) :
  PE X (.Subscript (.Name x p) i pos) (fun σ H Q=>ty σ H fun y H1=>∃ j v,y=.int j∧kvs.lookup j=some v∧Q v H1):=by
 intro pins s σ H Q I h
 refine Ze7 PySem.F.slot_dict_getitem.lookup hs (Z1q I hg hm ?_ hdb)
 refine thn (hi pins s σ H _ I h) fun iv s2 ⟨y,H2,I2,ry,j,v,ey,l,q2⟩=>?_
 subst ey
 obtain ⟨t,rfl⟩:=ry
 obtain ⟨g,hm,hg⟩:=D.map (P:=X.prog) (w:=X.w) I2.kIn
 have r:=hg j
 rw[l] at r
 obtain ⟨w',hw,rw'⟩:=RelO.some_of r
 exact ⟨hm.typeIs,wpAny_getItem_of (knd:=PySem.intKind X.prog X.w) (k:=j) (by show Value.isInt j (Value.int j t)=true;simp[Value.isInt]) hm hw ⟨v,H2,I2.tok _,rw',q2⟩⟩
theorem pc_kin (D:KD X.K a kvs) (hg:Gl X x) (hm:X.mg x=some (.ref a)) (hi:PE X i ty) (hdb:(x==("__debug__" : Str))=false:=by decide) :
  PC X .In i (.Name x p) (fun σ H Q=>ty σ H fun y H1=>∃ j,y=.int j∧Q (.bl (kvs.lookup j).isSome) H1):=by
 intro pins s σ H Q I h
 refine thn (hi pins s σ H _ I h) fun iv s2 ⟨y,H2,I2,ry,j,ey,q2⟩=>Z1q I2 hg hm ?_ hdb
 subst ey
 obtain ⟨t,rfl⟩:=ry
 obtain ⟨g,hm,hg⟩:=D.map (P:=X.prog) (w:=X.w) I2.kIn
 refine wpAny_in_of (knd:=PySem.intKind X.prog X.w) (k:=j) (by show Value.isInt j (Value.int j t)=true;simp[Value.isInt]) D.lo hm ?_
 rw[← (hg j).isSome_eq]
 exact ⟨.bl _,H2,I2.tok _,rfl,q2⟩
theorem pc_knin (D:KD X.K a kvs) (hg:Gl X x) (hm:X.mg x=some (.ref a)) (hi:PE X i ty) (hdb:(x==("__debug__" : Str))=false:=by decide) :
  PC X .NotIn i (.Name x p) (fun σ H Q=>ty σ H fun y H1=>∃ j,y=.int j∧Q (.bl (!(kvs.lookup j).isSome)) H1):=by
 intro pins s σ H Q I h
 refine thn (hi pins s σ H _ I h) fun iv s2 ⟨y,H2,I2,ry,j,ey,q2⟩=>Z1q I2 hg hm ?_ hdb
 subst ey
 obtain ⟨t,rfl⟩:=ry
 obtain ⟨g,hm,hg⟩:=D.map (P:=X.prog) (w:=X.w) I2.kIn
 refine wpAny_notIn_of (knd:=PySem.intKind X.prog X.w) (k:=j) (by show Value.isInt j (Value.int j t)=true;simp[Value.isInt]) D.lo hm ?_
 rw[← (hg j).isSome_eq]
 exact ⟨.bl _,H2,I2.tok _,rfl,q2⟩
end
end L2
end
section
namespace L2
open PySem PySem.Spec PyProof.Rows PySem.W
section
variable {X:Cx} {K:PySem.W.Frag}
theorem Zc1 (h:X.K=K:=by rfl):IxR X (rIxL K):=h ▸ Zj
theorem Zfj (h:X.K=K:=by rfl):IxR X (rIxT K):=h ▸ Yg
theorem Zf0 {e:Expr} {ta:TE} {f:Str} {pos:Pos} (he:PE X e ta) (hb:attributeBase e f X.env (eval e X.env)=eval e X.env) (h:X.K=K:=by rfl):PE X (.Attribute e f pos) (tFld K ta f):=h ▸ Za he hb
theorem op_eqDK (hu:X.A.units+64<cLine) (h:X.K=K:=by rfl):OpR X (compareOp .Eq) (rEqD K):=h ▸ Zhl hu
theorem pg_tupK {es:List Expr} {k:Nat} {t:TGs} {n:Nat} {pos:Pos} (hc:X.calm=true) (h:PGs X es t) (hn:(assignEach es X.env).length=n:=by rfl) (hst:(assignEach es X.env).findIdx? (·.1)=none:=by rfl) (hK:X.K=K:=by rfl):PG X (.Tuple es k pos) (gTup K n t):=hK ▸ Zhk hc h hn hst
end
end L2
end
section
namespace Li
open Vbwsaf
theorem Z0c:∀ a:List Int,lessRow a a=false
 | []=>rfl
 | x::r=>by simp[lessRow,Z0c r]
theorem Z54 (a b:Int) (l m:List Int):lessRow (a::l) (b::m)=(decide (a<b)||(a==b&&lessRow l m)):=rfl
theorem Z3x:∀ a b c:List Int,lessRow a b=true→lessRow b c=true→lessRow a c=true
 | [],[],_,h,_=>by simp[lessRow] at h
 | [],_::_,[],_,h=>by simp[lessRow] at h
 | [],_::_,_::_,_,_=>rfl
 | _::_,[],_,h,_=>by simp[lessRow] at h
 | _::_,_::_,[],_,h=>by simp[lessRow] at h
 | x::r,y::t,z::u,h1,h2=>by
  simp only[Z54,Bool.or_eq_true,decide_eq_true_eq,Bool.and_eq_true,beq_iff_eq] at h1 h2 ⊢
  rcases h1 with h1 | ⟨h1,h1'⟩ <;> rcases h2 with h2 | ⟨h2,h2'⟩
  ·left;omega
  ·left;omega
  ·left;omega
  ·right;exact ⟨by omega,Z3x r t u h1' h2'⟩
theorem Zbw:∀ a b:List Int,lessRow a b=false→lessRow b a=false→a=b
 | [],[],_,_=>rfl
 | [],_::_,h,_=>by simp[lessRow] at h
 | _::_,[],_,h=>by simp[lessRow] at h
 | x::r,y::t,h1,h2=>by
  simp only[Z54,Bool.or_eq_false_iff,decide_eq_false_iff_not,Bool.and_eq_false_iff,beq_eq_false_iff_ne,ne_eq] at h1 h2
  obtain ⟨a1,a2⟩:=h1
  obtain ⟨b1,b2⟩:=h2
  have e:x=y:=by omega
  subst e
  have c1:lessRow r t=false:=a2.resolve_left (fun h=>h rfl)
  have c2:lessRow t r=false:=b2.resolve_left (fun h=>h rfl)
  rw[Zbw r t c1 c2]
theorem Zh0 {a b:List Int} (h:lessRow a b=true):lessRow b a=false:=by
 cases hb:lessRow b a with
 | false=>rfl
 | true=>
  have:=Z3x _ _ _ h hb
  rw[Z0c] at this
  cases this
theorem Zfe {x y:Input} (h:keyOf x=keyOf y):x=y:=by
 cases x with
 | mk p k n t d=>
 cases y with
 | mk p' k' n' t' d'=>
  simp only[keyOf,List.cons_append,List.nil_append,List.cons.injEq] at h
  obtain ⟨h1,h2,h3,h4,h5⟩:=h
  simp only[Input.mk.injEq]
  exact ⟨by omega,by omega,by omega,by omega,h5⟩
theorem U6 {x y:Input}:alike x y=true↔x=y:=by
 unfold alike
 rw[beq_iff_eq]
 exact ⟨Zfe,fun h=>by rw[h]⟩
theorem Zb1 (x:Input):less x x=false:=Z0c _
theorem Zde {x y z:Input} (h1:less x y=true) (h2:less y z=true):less x z=true:=Z3x _ _ _ h1 h2
theorem Z72 {x y:Input} (h1:less x y=false) (h2:less y x=false):x=y:=Zfe (Zbw _ _ h1 h2)
theorem Zdf {x y:Input} (h:less x y=true):less y x=false:=Zh0 h
theorem less_ne {x y:Input} (h:less x y=true):x≠y:=fun e=>by
 rw[e,Zb1] at h
 cases h
abbrev Ord (l:List Input):Prop:=l.Pairwise fun x y=>less x y=true
theorem Zal {x:Input}:∀ {l:List Input} {z:Input},z∈put x l→z=x∨z∈l
 | [],z,h=>by simp[put] at h;exact .inl h
 | y::r,z,h=>by
  unfold put at h
  by_cases h1:less x y=true
  ·rw[if_pos h1] at h
   rcases List.mem_cons.mp h with h | h
   ·exact .inl h
   ·exact .inr h
  ·rw[if_neg h1] at h
   by_cases h2:alike x y=true
   ·rw[if_pos h2] at h
    exact .inr h
   ·rw[if_neg h2] at h
    rcases List.mem_cons.mp h with h | h
    ·exact .inr (h ▸ List.mem_cons_self)
    ·rcases Zal h with h | h
     ·exact .inl h
     ·exact .inr (List.mem_cons_of_mem _ h)
theorem Zes {x:Input}:∀ {l:List Input},Ord l→Ord (put x l)
 | [],_=>by simp[put,Ord]
 | y::r,h=>by
  have h':=List.pairwise_cons.mp h
  unfold put
  by_cases h1:less x y=true
  ·rw[if_pos h1]
   refine List.pairwise_cons.mpr ⟨fun z hz=>?_,h⟩
   rcases List.mem_cons.mp hz with rfl | hz
   ·exact h1
   ·exact Zde h1 (h'.1 z hz)
  ·rw[if_neg h1]
   by_cases h2:alike x y=true
   ·rw[if_pos h2]
    exact h
   ·rw[if_neg h2]
    refine List.pairwise_cons.mpr ⟨fun z hz=>?_,Zes h'.2⟩
    rcases Zal hz with rfl | hz
    ·cases h3:less y z with
     | true=>rfl
     | false=>
      have e:z=y:=Z72 (by simpa using h1) h3
      exact absurd (U6.mpr e) h2
    ·exact h'.1 z hz
theorem Zbl {x:Input}:∀ {l:List Input},x ∉ l→(put x l).Perm (l++[x])
 | [],_=>by simp[put]
 | y::r,h=>by
  unfold put
  have hxy:x≠y:=fun e=>h (e ▸ List.mem_cons_self)
  have hr:x ∉ r:=fun e=>h (List.mem_cons_of_mem _ e)
  by_cases h1:less x y=true
  ·rw[if_pos h1]
   have:(x::(y::r)).Perm ((y::r)++[x]):=by
    have:=List.perm_append_comm (l₁:=[x]) (l₂:=y::r)
    simpa using this
   exact this
  ·rw[if_neg h1]
   have h2:¬ alike x y=true:=fun e=>hxy (U6.mp e)
   rw[if_neg h2]
   exact List.Perm.cons _ (Zbl hr)
theorem Z6w:∀ {l m:List Input},Ord l→Ord m→l.Perm m→l=m
 | [],m,_,_,p=>(List.nil_perm.mp p).symm
 | x::l,[],_,_,p=>absurd (List.perm_nil.mp p) (by simp)
 | x::l,y::m,hl,hm,p=>by
  have hl':=List.pairwise_cons.mp hl
  have hm':=List.pairwise_cons.mp hm
  have e:x=y:=by
   have hx:x∈y::m:=p.subset List.mem_cons_self
   have hy:y∈x::l:=p.symm.subset List.mem_cons_self
   rcases List.mem_cons.mp hx with h | h
   ·exact h
   ·rcases List.mem_cons.mp hy with h' | h'
    ·exact h'.symm
    ·have a:=hl'.1 y h'
     have b:=hm'.1 x h
     rw[Zdf a] at b
     cases b
  subst e
  rw[Z6w hl'.2 hm'.2 (List.Perm.cons_inv p)]
noncomputable def nm (x:Input):Nat×Nat×Nat:=(x.player,x.stay,x.number)
theorem Z0q {x y:Input}:sameNumber x y=true↔nm x=nm y:=by
 simp[sameNumber,nm]
def goF:Option (Nat×Nat×Nat)→List Input→List Input
 | _,[]=>[]
 | o,y::r=>if some (nm y)=o then goF o r else y::goF (some (nm y)) r
theorem lr_two {a b c d:Int} {l m:List Int} (h:lessRow (a::l) (b::m)=true):a<b∨(a=b∧lessRow l m=true):=by
 simpa [Z54] using h
theorem Zda {x y z:Input} (h1:less x y=true) (h2:less y z=true) (e:nm x=nm z):nm x=nm y:=by
 simp only[nm,Prod.mk.injEq] at e ⊢
 obtain ⟨e1,e2,e3⟩:=e
 simp only[less,keyOf,List.cons_append,List.nil_append,Z54,Bool.or_eq_true,decide_eq_true_eq,Bool.and_eq_true,beq_iff_eq] at h1 h2
 omega
theorem Z2z:∀ {l:List Input} (x:Input),Ord (x::l)→goF (some (nm x)) l=(firsts l).filter fun y=>!sameNumber x y
 | [],x,_=>rfl
 | y::r,x,h=>by
  have h':=List.pairwise_cons.mp h
  have hxy:less x y=true:=h'.1 y List.mem_cons_self
  have hx:Ord (x::r):=List.pairwise_cons.mpr ⟨fun z hz=>h'.1 z (List.mem_cons_of_mem _ hz),(List.pairwise_cons.mp h'.2).2⟩
  unfold goF firsts
  by_cases e:nm y=nm x
  ·rw[if_pos (by rw[e]),List.filter_cons,if_neg (by simp[Z0q.mpr e.symm]),Z2z x hx,List.filter_filter]
   congr 1
   funext z
   have:sameNumber y z=sameNumber x z:=by
    rw[Bool.eq_iff_iff,Z0q,Z0q,e]
   rw[this]
   simp
  ·rw[if_neg (by simpa using e),List.filter_cons,if_pos (by
    have:¬ sameNumber x y=true:=fun q=>e (Z0q.mp q).symm
    simpa using this),Z2z y h'.2]
   congr 1
   rw[List.filter_filter]
   apply List.filter_congr
   intro z hz
   have hzr:z∈r:=by
    have:∀ {l:List Input} {z},z∈firsts l→z∈l:=by
     intro l
     induction l with
     | nil=>intro z h;simp[firsts] at h
     | cons a l ih=>
      intro z h
      unfold firsts at h
      rcases List.mem_cons.mp h with h | h
      ·exact h ▸ List.mem_cons_self
      ·exact List.mem_cons_of_mem _ (ih (List.mem_filter.mp h).1)
    exact this hz
   have hyz:less y z=true:=(List.pairwise_cons.mp h'.2).1 z hzr
   have:sameNumber x z=false:=by
    cases q:sameNumber x z with
    | false=>rfl
    | true=>exact absurd (Zda hxy hyz (Z0q.mp q)).symm e
   rw[this]
   simp
theorem Zfs {l:List Input} (h:Ord l):goF none l=firsts l:=by
 cases l with
 | nil=>rfl
 | cons x r=>
  unfold goF firsts
  rw[if_neg (by simp),Z2z x h]
theorem Z32 {l:List Input}:(firsts l).Sublist l:=by
 induction l with
 | nil=>exact List.Sublist.refl _
 | cons a l ih=>
  unfold firsts
  exact List.Sublist.cons_cons _ (List.Sublist.trans List.filter_sublist ih)
theorem Z1b (m p:Nat):∀ (l had:List Input),(upTo m had l).filter (fun x=>x.player==p)=(l.filter fun x=>x.player==p).take (m-(had.filter fun y=>y.player==p).length)
 | [],had=>by simp[upTo]
 | x::r,had=>by
  unfold upTo
  by_cases hm:m≤(had.filter fun y=>y.player==x.player).length
  ·rw[if_pos hm,Z1b m p r had]
   by_cases hp:x.player=p
   ·subst hp
    have:m-(had.filter fun y=>y.player==x.player).length=0:=by omega
    rw[this];simp
   ·rw[List.filter_cons,if_neg (by simpa using hp)]
  ·rw[if_neg hm,List.filter_cons,Z1b m p r (x::had)]
   by_cases hp:x.player=p
   ·subst hp
    rw[if_pos (by simp),List.filter_cons,if_pos (by simp),List.filter_cons,if_pos (by simp)]
    obtain ⟨k,hk⟩:∃ k,m-(had.filter fun y=>y.player==x.player).length=k+1:=⟨m-(had.filter fun y=>y.player==x.player).length-1,by omega⟩
    rw[hk,List.take_succ_cons,List.length_cons]
    congr 2
    omega
   ·rw[if_neg (by simpa using hp),List.filter_cons,if_neg (by simpa using hp),List.filter_cons,if_neg (by simpa using hp)]
def cnt (m:Nat) (fs:List Input) (t p:Nat):List Input:=(fs.filter fun x=>decide (x.tick=t∧x.player=p)).take m
theorem Z2e (m:Nat) (fs:List Input) (t p:Nat):(countsOf m fs t).filter (fun x=>x.player==p)=cnt m fs t p:=by
 unfold countsOf cnt
 rw[Z1b,List.filter_filter]
 simp only[List.filter_nil,List.length_nil,Nat.sub_zero]
 congr 1
 apply List.filter_congr
 intro x _
 rw[Bool.eq_iff_iff]
 simp[and_comm]
end Li
end
section
namespace Li
open Vbwsaf
theorem Z8n (x:Input):∀ (l:List Input) (o:Option (Nat×Nat×Nat)),goF o (l++[x])=goF o l++(if some (nm x)=(match l.getLast? with | some y=>some (nm y) | none=>o) then [] else [x])
 | [],o=>by
  show (if some (nm x)=o then [] else [x])=[]++(if some (nm x)=o then [] else [x])
  by_cases h:some (nm x)=o
  ·simp[h]
  ·simp[h]
 | y::r,o=>by
  show (if some (nm y)=o then goF o (r++[x]) else y::goF (some (nm y)) (r++[x]))=(if some (nm y)=o then goF o r else y::goF (some (nm y)) r)++_
  have key:∀ o':Option (Nat×Nat×Nat),o'=some (nm y)→(match r.getLast? with | some z=>some (nm z) | none=>o')=(match (y::r).getLast? with | some z=>some (nm z) | none=>o):=by
   intro o' ho
   cases r with
   | nil=>simp[ho]
   | cons a r=>rw[List.getLast?_cons_cons];cases h:(a::r).getLast? with
    | none=>simp at h
    | some z=>rfl
  by_cases h:some (nm y)=o
  ·rw[if_pos h,if_pos h,Z8n x r o,key o h.symm]
  ·rw[if_neg h,if_neg h,Z8n x r (some (nm y)),key _ rfl]
   rfl
theorem Zhb (m:Nat) (fs:List Input) (x:Input) (t p:Nat) :
  cnt m (fs++[x]) t p=if x.tick=t∧x.player=p∧(cnt m fs t p).length<m then cnt m fs t p++[x] else cnt m fs t p:=by
 unfold cnt
 rw[List.filter_append,List.filter_cons,List.filter_nil]
 by_cases h:x.tick=t∧x.player=p
 ·rw[if_pos (decide_eq_true h),List.length_take]
  generalize fs.filter _=g
  by_cases hl:g.length<m
  ·rw[if_pos ⟨h.1,h.2,by omega⟩,List.take_of_length_le (by rw[List.length_append];simp;omega),List.take_of_length_le (by omega)]
  ·rw[if_neg (by rintro ⟨_,_,q⟩;omega),List.take_append_of_le_length (by omega)]
 ·rw[if_neg (by simpa using h),if_neg (fun q=>h ⟨q.1,q.2.1⟩),List.append_nil]
theorem Z8q (m:Nat) (fs:List Input) (t p:Nat):(cnt m fs t p).length≤m:=by
 unfold cnt
 rw[List.length_take]
 exact Nat.min_le_left _ _
theorem cnt_mem {m:Nat} {fs:List Input} {t p:Nat} {x:Input} (h:x∈cnt m fs t p):x∈fs∧x.tick=t∧x.player=p:=by
 unfold cnt at h
 have:=List.mem_filter.mp (List.mem_of_mem_take h)
 exact ⟨this.1,by simpa using this.2⟩
theorem Zb2 (m:Nat) (fs:List Input) (p n t:Nat) (ht:2≤t):lately m fs p (n+1) t=match (cnt m fs (t-1) p).getLast? with
  | some x=>some x
  | none=>lately m fs p n (t-1):=by
 rw[lately,if_neg (by omega),Z2e]
 rfl
theorem Z73 (m:Nat) (fs:List Input) (p n t:Nat) (h:n=0∨t≤1):lately m fs p n t=none:=by
 cases n with
 | zero=>rw[lately]
 | succ n=>rw[lately,if_pos (by omega)]
noncomputable def isThere (stays:List Stay) (p t:Nat):Bool:=stays.any fun s=>s.player==p&&there s t
theorem Z86 {l:List Stay} {t p:Nat} (hp:p<4):(playersAt l t).contains p=isThere l p t:=by
 unfold playersAt isThere
 rw[Bool.eq_iff_iff,List.contains_iff_mem,List.mem_filter]
 constructor
 ·exact fun h=>h.2
 ·exact fun h=>⟨List.mem_range.mpr hp,h⟩
def dOf (m hold:Nat) (stays:List Stay) (fs:List Input) (t p:Nat):List Deed:=
 if (cnt m fs t p).isEmpty=false then (cnt m fs t p).map fun x=>⟨x,false⟩
 else if isThere stays p t=true then (match lately m fs p hold t with | some x=>[⟨x,true⟩] | none=>[]) else []
theorem Zh9 (m hold:Nat) (stays:List Stay) (fs:List Input) (t:Nat):deeds m hold stays fs t=(List.range 4).flatMap fun p=>dOf m hold stays fs t p:=by
 unfold deeds
 show (List.range 4).flatMap _=_
 rw[List.flatMap_def,List.flatMap_def]
 congr 1
 apply List.map_congr_left
 intro p hp
 have hp4:=List.mem_range.mp hp
 rw[Z2e,Z86 hp4]
 unfold dOf
 cases cnt m fs t p with
 | nil=>
  simp only[List.isEmpty_nil]
  cases isThere stays p t with
  | true=>
   simp
   cases lately m fs p hold t <;> rfl
  | false=>simp
 | cons a l=>simp
theorem Z1i {W:Type} (f:Tick W) (d:Nat→List Deed):∀ (n t:Nat) (w:W),reckon f d (n+1) t w=f (reckon f d n t w) (t+n+1) (d (t+n+1))
 | 0,t,w=>rfl
 | n+1,t,w=>by
  rw[reckon,Z1i f d n (t+1),reckon]
  have e:t+1+n+1=t+(n+1)+1:=by omega
  rw[e]
theorem Jh {W:Type} (f:Tick W) (d:Nat→List Deed) (e:Nat):∀ (n t:Nat) (w:W),
  reckonSnaps f d e (n+1) t w=((reckonSnaps f d e n t w).1++(if (t+n+1)%e=0 then [(t+n+1,f (reckonSnaps f d e n t w).2 (t+n+1) (d (t+n+1)))] else []),
   f (reckonSnaps f d e n t w).2 (t+n+1) (d (t+n+1)))
 | 0,t,w=>by
  rw[reckonSnaps,reckonSnaps,reckonSnaps]
  by_cases h:(t+1)%e=0
  ·simp[h]
  ·simp[h]
 | n+1,t,w=>by
  rw[reckonSnaps,Jh f d e n (t+1)]
  have q:t+1+n+1=t+(n+1)+1:=by omega
  have u:reckonSnaps f d e (n+1) t w=(if (t+1)%e=0 then ((t+1,f w (t+1) (d (t+1)))::(reckonSnaps f d e n (t+1) (f w (t+1) (d (t+1)))).1,(reckonSnaps f d e n (t+1) (f w (t+1) (d (t+1)))).2)
   else reckonSnaps f d e n (t+1) (f w (t+1) (d (t+1)))):=by rw[reckonSnaps]
  rw[u,q]
  by_cases h:(t+1)%e=0
  ·simp only[if_pos h,List.cons_append]
  ·simp only[if_neg h]
theorem Ut {W:Type} (f:Tick W) (d:Nat→List Deed) (e:Nat):∀ (n t:Nat) (w:W),(reckonSnaps f d e n t w).1.map (·.1)=((List.range n).map fun i=>t+1+i).filter fun x=>x%e=0
 | 0,t,w=>by rw[reckonSnaps];rfl
 | n+1,t,w=>by
  rw[Jh,List.map_append,Ut f d e n t w,List.range_succ,List.map_append,List.filter_append]
  congr 1
  have q:t+n+1=t+1+n:=by omega
  by_cases h:(t+n+1)%e=0
  ·rw[if_pos h];simp[q ▸ h,q]
  ·rw[if_neg h];simp[q ▸ h]
end Li
end
section
namespace Li
open Vbwsaf
theorem Zel (r:List Int):PyFlat.rows 0 r=some ([],r):=rfl
theorem Zgj {r:List Int} {xs:List (List Int)} {t:List Int} (h:PyFlat.rows 1 r=some (xs,t)) :
  ∃ (m:Nat) (r2:List Int),r=(m:Int)::r2∧m≤r2.length∧xs=[r2.take m]∧t=r2.drop m:=by
 unfold PyFlat.rows at h
 cases r with
 | nil=>simp[PyFlat.row] at h
 | cons n r2=>
  simp only[PyFlat.row] at h
  by_cases q:0≤n∧n.toNat≤r2.length
  ·rw[if_pos q] at h
   simp only[PyFlat.rows,Option.some.injEq,Prod.mk.injEq] at h
   exact ⟨n.toNat,r2,by rw[Int.toNat_of_nonneg q.1],q.2,h.1.symm,h.2.symm⟩
  ·rw[if_neg q] at h
   simp at h
noncomputable def wide (p:Nat):Nat:=[6,1,1,4,1,1,1,1,1,1,3,0,0,0,0,1].getD p 0
theorem Zd0 {p:Int} {n k:Nat} (h:PyVbwsaf.shape p=some (n,k)):∃ q:Nat,p=(q:Int)∧q<16∧n=wide q∧k=if q=3 then 1 else 0:=by
 have key:∀ q:Nat,q<16→PyVbwsaf.shape (q:Int)=some (n,k)→n=wide q∧k=if q=3 then 1 else 0:=by
  intro q hq
  match q,hq with
  | 0,_ | 1,_ | 2,_ | 3,_ | 4,_ | 5,_ | 6,_ | 7,_ | 8,_ | 9,_ | 10,_ | 11,_ | 12,_ | 13,_ | 14,_ | 15,_=>
   intro e
   have e':=Option.some.inj e
   injection e' with e1 e2
   exact ⟨e1.symm,e2.symm⟩
  | q+16,hq=>exact absurd hq (by omega)
 have hr:0≤p∧p<16:=by
  unfold PyVbwsaf.shape at h
  by_cases h0:p=0;· omega
  by_cases h1:p=1;· omega
  by_cases h2:p=2;· omega
  by_cases h3:p=3;· omega
  by_cases h4:p=4;· omega
  by_cases h5:p=5;· omega
  by_cases h6:p=6;· omega
  by_cases h7:p=7;· omega
  by_cases h8:p=8;· omega
  by_cases h9:p=9;· omega
  by_cases h10:p=10;· omega
  by_cases h11:p=11;· omega
  by_cases h12:p=12;· omega
  by_cases h13:p=13;· omega
  by_cases h14:p=14;· omega
  by_cases h15:p=15;· omega
  simp[h0,h1,h2,h3,h4,h5,h6,h7,h8,h9,h10,h11,h12,h13,h14,h15] at h
 obtain ⟨q,rfl⟩:∃ q:Nat,p=(q:Int):=⟨p.toNat,by omega⟩
 exact ⟨q,rfl,by omega,key q (by omega) h⟩
inductive Ahead:List Int→Nat→List Int→List Int→List Int→Prop where
 | plain {q:Nat} {as t:List Int} (hq:q<16) (h3:q≠3) (hl:as.length=wide q):Ahead ((q:Int)::(as++t)) q as [] t
 | row {as x t:List Int} (hl:as.length=4):Ahead (3::(as++((x.length:Int)::(x++t)))) 3 as x t
noncomputable def callOfQ (q:Nat) (as x:List Int):List (List Int):=if q=3 then [(q:Int)::as,x] else [(q:Int)::as]
theorem Z7b {f:Nat} {l:List Int} {cs:List (List (List Int))} (h:PyFlat.calls PyVbwsaf.shape f l=some cs) :
  (l=[]∧cs=[])∨∃ (q:Nat) (as x t:List Int) (f':Nat) (cs':List (List (List Int))),Ahead l q as x t∧cs=callOfQ q as x::cs'∧PyFlat.calls PyVbwsaf.shape f' t=some cs':=by
 match f,l,h with
 | f,[],h=>
  left
  cases f <;> (simp only[PyFlat.calls,Option.some.injEq] at h;exact ⟨rfl,h.symm⟩)
 | 0,_::_,h=>simp[PyFlat.calls] at h
 | f+1,p::r,h=>
  right
  unfold PyFlat.calls at h
  cases hc:PyFlat.call PyVbwsaf.shape (p::r) with
  | none=>rw[hc] at h;simp at h
  | some ct=>
   obtain ⟨c,t⟩:=ct
   rw[hc] at h
   simp only at h
   cases hr:PyFlat.calls PyVbwsaf.shape f t with
   | none=>rw[hr] at h;simp at h
   | some cs'=>
    rw[hr] at h
    simp only[Option.some.injEq] at h
    have hc:(match PyVbwsaf.shape p with
      | none=>none
      | some (n,k)=>if r.length<n then none else match PyFlat.rows k (r.drop n) with
       | none=>none
       | some (xs,t)=>some ((p::r.take n)::xs,t))=some (c,t):=hc
    cases hs:PyVbwsaf.shape p with
    | none=>rw[hs] at hc;simp at hc
    | some nk=>
     obtain ⟨n,k⟩:=nk
     rw[hs] at hc
     simp only at hc
     obtain ⟨q,rfl,hq,rfl,rfl⟩:=Zd0 hs
     by_cases hl:r.length<wide q
     ·rw[if_pos hl] at hc;simp at hc
     ·rw[if_neg hl] at hc
      by_cases h3:q=3
      ·subst h3
       simp only[if_true] at hc
       cases hrow:PyFlat.rows 1 (r.drop (wide 3)) with
       | none=>rw[hrow] at hc;simp at hc
       | some xt=>
        obtain ⟨xs,t'⟩:=xt
        rw[hrow] at hc
        simp only[Option.some.injEq,Prod.mk.injEq] at hc
        obtain ⟨rfl,rfl⟩:=hc
        obtain ⟨m,r2,e1,e2,rfl,rfl⟩:=Zgj hrow
        refine ⟨3,r.take 4,r2.take m,r2.drop m,f,cs',?_,?_,hr⟩
        ·have e3:r=r.take 4++(((r2.take m).length:Int)::(r2.take m++r2.drop m)):=by
          rw[List.take_append_drop,List.length_take,Nat.min_eq_left e2,← e1]
          exact (List.take_append_drop 4 r).symm
         have hl4:4≤r.length:=by
          have:wide 3=4:=rfl
          omega
         have:=Ahead.row (as:=r.take 4) (x:=r2.take m) (t:=r2.drop m) (by rw[List.length_take];omega)
         rw[← e3] at this
         exact this
        ·rw[← h];rfl
      ·simp only[if_neg h3,Zel,Option.some.injEq,Prod.mk.injEq] at hc
       obtain ⟨rfl,rfl⟩:=hc
       refine ⟨q,r.take (wide q),[],r.drop (wide q),f,cs',?_,?_,hr⟩
       ·have:=Ahead.plain (as:=r.take (wide q)) (t:=r.drop (wide q)) hq h3 (by rw[List.length_take];omega)
        rw[List.take_append_drop] at this
        exact this
       ·rw[← h]
        unfold callOfQ
        rw[if_neg h3]
theorem Zgd (c:List (List Int)):PyVbwsaf.whole c=c:=by
 rcases c with _|⟨_|⟨x|x,xs⟩,as⟩
 ·rfl
 ·first|rfl|(cases as <;> rfl)
 ·rcases x with _|_|_|_|_|_|_|_|_|_|_|_|_|_|_|_|n
  all_goals first
   |rfl
   |(rcases as with _|⟨_,_|_⟩ <;> first
     |rfl
     |(rcases xs with _|⟨_,_|_⟩ <;> rfl)
     |(rcases xs with _|⟨_,_|⟨_,_|⟨_,_|_⟩⟩⟩ <;> rfl)
     |(rcases xs with _|⟨_,_|⟨_,_|⟨_,_|⟨_,_|_⟩⟩⟩⟩ <;> rfl)
     |(rcases xs with _|⟨_,_|⟨_,_|⟨_,_|⟨_,_|⟨_,_|⟨_,_|_⟩⟩⟩⟩⟩⟩ <;> rfl))
 ·first|rfl|(cases as <;> rfl)
theorem Zce (l:List Int):PyVbwsaf.calls l=PyFlat.calls PyVbwsaf.shape l.length l:=by
 unfold PyVbwsaf.calls
 cases PyFlat.calls PyVbwsaf.shape l.length l with
 | none=>rfl
 | some cs=>
  have:cs.map PyVbwsaf.whole=cs:=by
   rw[show PyVbwsaf.whole=id from funext Zgd,List.map_id]
  simp only[this]
end Li
end
section
namespace Pr
open PySem PySem.Spec PyProof.Rows L2
noncomputable def top (i:Nat):Stmt:=PySem.Challenge.pw_lateinputs_s01_answers.main.body.getD i (.Pass ⟨0,0,0,0⟩)
abbrev Z4k:Stmt:=inClass (top 2) 0
abbrev Z6k:Stmt:=top 3
abbrev Z6o:Stmt:=top 4
abbrev Z0z:Stmt:=top 5
abbrev Z22:Stmt:=top 6
abbrev Zbf:Stmt:=top 7
abbrev Z98:Stmt:=top 14
abbrev Z6r:Stmt:=top 15
abbrev Z25:Stmt:=top 16
abbrev Z11:Stmt:=top 17
abbrev Z4j:Stmt:=top 18
abbrev Z6q:Stmt:=top 19
abbrev Z97:Stmt:=top 20
abbrev Z24:Stmt:=top 24
abbrev Z6n:Stmt:=top 25
abbrev s_put:Stmt:=top 26
abbrev Z6p:Stmt:=top 27
abbrev Z26:Stmt:=top 28
abbrev U8:Stmt:=top 29
abbrev Z99:Stmt:=top 30
abbrev Z9a:Stmt:=top 31
abbrev Z12:Stmt:=top 32
abbrev Z16:Stmt:=inClass (top 44) 0
abbrev Jl:Stmt:=inClass (top 44) 1
abbrev Ub:Stmt:=inClass (top 44) 2
abbrev Z14:Stmt:=inClass (top 44) 3
abbrev X6:Stmt:=inClass (top 44) 4
abbrev Z15:Stmt:=inClass (top 44) 5
abbrev Jj:Stmt:=inClass (top 44) 6
abbrev U9:Stmt:=inClass (top 44) 7
abbrev Z03:Stmt:=inClass (top 44) 8
abbrev Xb:Stmt:=inClass (top 44) 9
abbrev Xz:Stmt:=inClass (top 44) 10
abbrev Wo:Stmt:=inClass (top 44) 11
abbrev Jx:Stmt:=inClass (top 44) 12
abbrev Xe:Stmt:=inClass (top 44) 13
abbrev Ua:Stmt:=inClass (top 44) 14
abbrev Wn:Stmt:=inClass (top 44) 15
abbrev Wm:Stmt:=inClass (top 44) 16
abbrev Xn:Stmt:=inClass (top 44) 17
abbrev Xg:Stmt:=inClass (top 44) 18
abbrev Xy:Stmt:=inClass (top 44) 19
abbrev J0:Stmt:=inClass (top 44) 20
abbrev Jk:Stmt:=inClass (top 44) 21
abbrev Z4l:Stmt:=inClass (top 59) 0
abbrev Z6m:Stmt:=top 60
abbrev Z21:Stmt:=top 61
abbrev Z01:Stmt:=top 62
abbrev Z23:Stmt:=top 63
abbrev Z10:Stmt:=top 64
abbrev Z6l:Stmt:=top 65
abbrev Z3b:Stmt:=top 66
abbrev Z3c:Stmt:=top 67
abbrev Z00:Stmt:=top 68
abbrev Z36:Stmt:=top 69
abbrev Z20:Stmt:=top 70
abbrev Z3a:Stmt:=top 71
abbrev Z4h:Stmt:=top 72
abbrev Wl:Stmt:=top 73
abbrev Z6j:Stmt:=top 74
abbrev Z37:Stmt:=top 75
abbrev Z38:Stmt:=top 76
abbrev Z39:Stmt:=top 77
abbrev Zbg:Stmt:=top 79
abbrev Z4i:Stmt:=top 81
abbrev Z6s:Stmt:=top 82
abbrev Z13:Stmt:=top 83
abbrev Z02:Stmt:=top 84
structure GF (K:PySem.W.Frag) (mg:Str→Option Value) (x:Str) (st:Stmt) (ps:List Str) where
 f:Addr
 d:FuncData
 F:Fun K x x st f d
 b:Binds K d ps []
 m:mg x=some (.ref f)
structure MF (K:PySem.W.Frag) (C:Addr) (x qual:Str) (st:Stmt) (ps:List Str) where
 f:Addr
 d:FuncData
 F:Fun K x qual st f d
 b:Binds K d ps []
 M:Meth K C x f
noncomputable def ranges:List (Int×List (Int×Int)):=[(0,[(1,16),(0,16),(1,5),(0,5),(1,8),(0,1000000)]),(1,[(0,3)]),(2,[(0,3)]),(3,[(0,3),(1,40),(1,100000),(1,1000)]),(4,[(1,50)]),(5,[(1,50)]),(6,[(1,16)]),(7,[(0,400)]),(8,[(1,1000)]),(9,[(1,1000)]),(10,[(0,3),(1,40),(1,100000)]),(11,[]),(12,[]),(13,[]),(14,[]),(15,[(0,400)])]
def pairRead (K:PySem.W.Frag):V→Option (Int×Int)
 | .ref a=>match ktRead K a with
  | some [.int x,.int y]=>some (x,y)
  | _=>none
 | _=>none
def rowRead (K:PySem.W.Frag):Int×V→Option (Int×List (Int×Int))
 | (i,.ref a)=>match ktRead K a with
  | some vs=>(vs.mapM (pairRead K)).map fun l=>(i,l)
  | none=>none
 | _=>none
def rngRead (K:PySem.W.Frag) (a:Addr):Option (List (Int×List (Int×Int))):=match kdRead K a with
 | some kvs=>kvs.mapM (rowRead K)
 | none=>none
def Doers (K:PySem.W.Frag) (mg:Str→Option Value) (a:Addr):Prop:=∃ f1 f2 f3 f4 f5 f6 f7 f8 f9 f10 f11 f12 f13 f14 f15:Addr,kdRead K a=some [(1,.ref f1),(2,.ref f2),(3,.ref f3),(4,.ref f4),(5,.ref f5),(6,.ref f6),(7,.ref f7),(8,.ref f8),(9,.ref f9),(10,.ref f10),(11,.ref f11),(12,.ref f12),(13,.ref f13),(14,.ref f14),(15,.ref f15)]∧mg "join_player" = some (.ref f1)∧mg "leave_player" = some (.ref f2)∧mg "take_one" = some (.ref f3)∧mg "make_ticks" = some (.ref f4)∧mg "lock_ticks" = some (.ref f5)∧mg "resize_window" = some (.ref f6)∧mg "tell_world" = some (.ref f7)∧mg "tell_counts" = some (.ref f8)∧mg "tell_deeds" = some (.ref f9)∧mg "tell_fate" = some (.ref f10)∧mg "tell_snapshots" = some (.ref f11)∧mg "tell_now" = some (.ref f12)∧mg "tell_stays" = some (.ref f13)∧mg "tell_ready" = some (.ref f14)∧mg "tell_plain" = some (.ref f15)
set_option genInjectivity false in
set_option genSizeOf false in
structure TX (K:PySem.W.Frag) (mg:Str→Option Value) where
 cStay:Addr
 X1:Cls K cStay
 Jc:NoAttr K cStay "player"
 Uf:NoAttr K cStay "number"
 Z0l:NoAttr K cStay "behind"
 J5:NoAttr K cStay "last"
 cStay_m:mg "Stay" = some (.ref cStay)
 cSession:Addr
 Z1:Cls K cSession
 U4:NoAttr K cSession "window"
 Z19:NoAttr K cSession "ahead"
 Z2i:NoAttr K cSession "most"
 Z2j:NoAttr K cSession "held"
 Z18:NoAttr K cSession "every"
 Zt:NoAttr K cSession "stays"
 X2:NoAttr K cSession "kept"
 Xu:NoAttr K cSession "late"
 Yw:NoAttr K cSession "counts"
 Zh:NoAttr K cSession "made"
 Zn:NoAttr K cSession "settled"
 Xv:NoAttr K cSession "beginning"
 Yo:NoAttr K cSession "cells"
 Zo:NoAttr K cSession "snapshots"
 Zdt:mg "Session" = some (.ref cSession)
 cLine:Addr
 Yp:Cls K cLine
 Ze:NoAttr K cLine "session"
 cLine_m:mg "Line" = some (.ref cLine)
 Stay_init:MF K cStay "__init__" "Stay.__init__" Z4k ["self", "player", "number", "behind"]
 takes_in:GF K mg "takes_in" Z6k ["stay", "tick"]
 is_there:GF K mg "is_there" Z6o ["stays", "player", "tick"]
 present_stay:GF K mg "present_stay" Z0z ["stays", "player"]
 next_number:GF K mg "next_number" Z22 ["stays", "player"]
 row_of:GF K mg "row_of" Zbf ["stay"]
 name_of:GF K mg "name_of" Z98 ["one"]
 counting:GF K mg "counting" Z6r ["kept", "most"]
 counting_of:GF K mg "counting_of" Z25 ["counts", "tick", "player"]
 counting_for:GF K mg "counting_for" Z11 ["counts", "tick"]
 guess_for:GF K mg "guess_for" Z4j ["counts", "held", "tick", "player"]
 deeds_of:GF K mg "deeds_of" Z6q ["counts", "stays", "held", "tick"]
 rows_of:GF K mg "rows_of" Z97 ["deeds"]
 first_cells:GF K mg "first_cells" Z24 ["seed"]
 place_of:GF K mg "place_of" Z6n ["number"]
 put:GF K mg "put" s_put ["cells", "place", "number"]
 exchange:GF K mg "exchange" Z6p ["cells", "place", "other"]
 add_if_less:GF K mg "add_if_less" Z26 ["cells", "place", "other", "bound"]
 do_three_numbers:GF K mg "do_three_numbers" U8 ["cells", "says"]
 do_says:GF K mg "do_says" Z99 ["cells", "says"]
 do_deed:GF K mg "do_deed" Z9a ["cells", "deed"]
 cells_behind:GF K mg "cells_behind" Z12 ["cells", "tick", "deeds"]
 Jf:MF K cSession "__init__" "Session.__init__" Z16 ["self", "window", "ahead", "most", "held", "every", "seed"]
 Ym:MF K cSession "begin_stay" "Session.begin_stay" Jl ["self", "player"]
 X5:MF K cSession "end_stay" "Session.end_stay" Ub ["self", "player"]
 Jd:MF K cSession "take" "Session.take" Z14 ["self", "one"]
 Zq:MF K cSession "reason_not_to_keep" "Session.reason_not_to_keep" X6 ["self", "one"]
 Je:MF K cSession "keep" "Session.keep" Z15 ["self", "one"]
 Zz:MF K cSession "does_count" "Session.does_count" Jj ["self", "one"]
 X4:MF K cSession "known_of" "Session.known_of" U9 ["self", "name"]
 Y0:MF K cSession "deeds" "Session.deeds" Z03 ["self", "tick"]
 Zk:MF K cSession "deeds_not_settled" "Session.deeds_not_settled" Xb ["self"]
 Yc:MF K cSession "reckon_again" "Session.reckon_again" Xz ["self", "first"]
 Yr:MF K cSession "reckon" "Session.reckon" Wo ["self", "tick"]
 Y7:MF K cSession "make_tick" "Session.make_tick" Jx ["self"]
 Zw:MF K cSession "make_ready_ticks" "Session.make_ready_ticks" Xe ["self", "many"]
 Ya:MF K cSession "is_ready" "Session.is_ready" Ua ["self"]
 Xj:MF K cSession "resize" "Session.resize" Wn ["self", "window"]
 Yq:MF K cSession "settle" "Session.settle" Wm ["self"]
 Y6:MF K cSession "first_snapshot" "Session.first_snapshot" Xn ["self"]
 Zg:MF K cSession "latest_snapshot" "Session.latest_snapshot" Xg ["self", "tick"]
 Yb:MF K cSession "world_behind" "Session.world_behind" Xy ["self", "tick"]
 Yd:MF K cSession "plain_behind" "Session.plain_behind" J0 ["self", "tick"]
 Y1:MF K cSession "cells_from" "Session.cells_from" Jk ["self", "cells", "start", "tick"]
 Line_init:MF K cLine "__init__" "Line.__init__" Z4l ["self"]
 row_fits:GF K mg "row_fits" Z6m ["call", "row"]
 numbers_fit:GF K mg "numbers_fit" Z21 ["call", "numbers"]
 begin_session:GF K mg "begin_session" Z01 ["line", "numbers"]
 join_player:GF K mg "join_player" Z23 ["session", "numbers"]
 leave_player:GF K mg "leave_player" Z10 ["session", "numbers"]
 take_one:GF K mg "take_one" Z6l ["session", "numbers"]
 make_ticks:GF K mg "make_ticks" Z3b ["session", "numbers"]
 lock_ticks:GF K mg "lock_ticks" Z3c ["session", "numbers"]
 resize_window:GF K mg "resize_window" Z00 ["session", "numbers"]
 tell_world:GF K mg "tell_world" Z36 ["session", "numbers"]
 tell_counts:GF K mg "tell_counts" Z20 ["session", "numbers"]
 tell_deeds:GF K mg "tell_deeds" Z3a ["session", "numbers"]
 tell_fate:GF K mg "tell_fate" Z4h ["session", "numbers"]
 tell_snapshots:GF K mg "tell_snapshots" Wl ["session", "numbers"]
 tell_now:GF K mg "tell_now" Z6j ["session", "numbers"]
 tell_stays:GF K mg "tell_stays" Z37 ["session", "numbers"]
 tell_ready:GF K mg "tell_ready" Z38 ["session", "numbers"]
 tell_plain:GF K mg "tell_plain" Z39 ["session", "numbers"]
 answer:GF K mg "answer" Zbg ["line", "call", "numbers"]
 row_place:GF K mg "row_place" Z4i ["calls", "start"]
 call_end:GF K mg "call_end" Z6s ["calls", "start"]
 call_numbers:GF K mg "call_numbers" Z13 ["calls", "start"]
 answers:GF K mg "answers" Z02 ["calls"]
 cStay_k:Mk K cStay Stay_init.f
 Zdu:Mk K cSession Jf.f
 cLine_k:Mk K cLine Line_init.f
 Wi:∃ t,mg "STILL_THERE" = some (.int (-1) t)
 Xs:∃ t,mg "PLAYERS" = some (.int 4 t)
 Xd:∃ t,mg "PLAYER" = some (.int 0 t)
 Zfh:∃ t,mg "STAY" = some (.int 1 t)
 Jn:∃ t,mg "TICK" = some (.int 3 t)
 Z3f:∃ t,mg "SAYS" = some (.int 4 t)
 Z0h:∃ t,mg "CELLS" = some (.int 6 t)
 U3:∃ t,mg "MODULUS" = some (.int 1000003 t)
 U2:∃ t,mg "THERE_ALREADY" = some (.int 0 t)
 Z8m:∃ t,mg "COUNTS" = some (.int 1 t)
 Js:∃ t,mg "TOO_LATE" = some (.int 2 t)
 Z1r:∃ t,mg "TOO_EARLY" = some (.int 3 t)
 Wj:∃ t,mg "NOT_PRESENT" = some (.int 4 t)
 Z0g:∃ t,mg "COUNTS_NOT" = some (.int 5 t)
 Z0e:∃ t,mg "NEVER_CAME" = some (.int 0 t)
 Us:∃ t,mg "FIRST_COUNTS" = some (.int 1 t)
 Z1s:∃ t,mg "ONLY_LATE" = some (.int 2 t)
 Xt:∃ t,mg "FIRST_COUNTS_NOT" = some (.int 3 t)
 Up:∃ t,mg "OUT_OF_RANGE" = some (.int (-1) t)
 Ur:∃ t,mg "NOTHING_OPEN" = some (.int (-2) t)
 Yk:∃ t,mg "WRONG_PRESENCE" = some (.int (-3) t)
 Yv:∃ t,mg "NOT_TO_BE_HAD" = some (.int (-4) t)
 Uq:∃ t,mg "OPEN_ALREADY" = some (.int (-5) t)
 Yl:∃ t,mg "TOO_MANY" = some (.int (-7) t)
 Z0f:∃ t,mg "MOST_STAYS" = some (.int 40 t)
 Z1u:∃ t,mg "MOST_KEPT" = some (.int 100 t)
 Z1t:∃ t,mg "MOST_LATE" = some (.int 100 t)
 J3:∃ t,mg "LAST_TICK" = some (.int 400 t)
 Zfi:∃ t,mg "OPEN" = some (.int 0 t)
 b_len:mg "len" = none
 b_range:mg "range" = none
 b_any:mg "any" = none
 b_all:mg "all" = none
 b_sorted:mg "sorted" = none
 b_min:mg "min" = none
 b_max:mg "max" = none
 b_list:mg "list" = none
 b_tuple:mg "tuple" = none
 b_dict:mg "dict" = none
 b_zip:mg "zip" = none
 aRANGES:Addr
 m_RANGES:mg "RANGES" = some (.ref aRANGES)
 r_RANGES:rngRead K aRANGES=some ranges
 aROWS:Addr
 tROWS:Addr
 m_ROWS:mg "ROWS" = some (.ref aROWS)
 r_ROWS:kdRead K aROWS=some [(3,.ref tROWS)]
 t_ROWS:ktRead K tROWS=some [.int 4,.int (-1000000),.int 1000000]
 aDOERS:Addr
 m_DOERS:mg "DOERS" = some (.ref aDOERS)
 r_DOERS:Doers K mg aDOERS
theorem Z95:Zb ["self", "player", "number", "behind"] ["self", "player", "number", "behind"] (Z7 Z4k):=⟨rfl,rfl,rfl,by decide +kernel,rfl,by decide +kernel,by decide +kernel⟩
theorem Zah:Zb ["stay", "tick"] ["stay", "tick"] (Z7 Z6k):=⟨rfl,rfl,rfl,by decide +kernel,rfl,by decide +kernel,by decide +kernel⟩
theorem Z1g:Zb ["stays", "player", "tick", "stay"] ["stays", "player", "tick"] (Z7 Z6o):=⟨rfl,rfl,rfl,by decide +kernel,rfl,by decide +kernel,by decide +kernel⟩
theorem Ww:Zb ["stays", "player", "stay"] ["stays", "player"] (Z7 Z0z):=⟨rfl,rfl,rfl,by decide +kernel,rfl,by decide +kernel,by decide +kernel⟩
theorem Ui:Zb ["stays", "player", "stay"] ["stays", "player"] (Z7 Z22):=⟨rfl,rfl,rfl,by decide +kernel,rfl,by decide +kernel,by decide +kernel⟩
theorem Zej:Zb ["stay"] ["stay"] (Z7 Zbf):=⟨rfl,rfl,rfl,by decide +kernel,rfl,by decide +kernel,by decide +kernel⟩
theorem Zd1:Zb ["one"] ["one"] (Z7 Z98):=⟨rfl,rfl,rfl,by decide +kernel,rfl,by decide +kernel,by decide +kernel⟩
theorem J2:Zb ["kept", "most", "found", "last_name", "one", "row"] ["kept", "most"] (Z7 Z6r):=⟨rfl,rfl,rfl,by decide +kernel,rfl,by decide +kernel,by decide +kernel⟩
theorem Z5y:Zb ["counts", "tick", "player"] ["counts", "tick", "player"] (Z7 Z25):=⟨rfl,rfl,rfl,by decide +kernel,rfl,by decide +kernel,by decide +kernel⟩
theorem Ju:Zb ["counts", "tick", "found", "player"] ["counts", "tick"] (Z7 Z11):=⟨rfl,rfl,rfl,by decide +kernel,rfl,by decide +kernel,by decide +kernel⟩
theorem Wx:Zb ["counts", "held", "tick", "player", "earlier", "row"] ["counts", "held", "tick", "player"] (Z7 Z4j):=⟨rfl,rfl,rfl,by decide +kernel,rfl,by decide +kernel,by decide +kernel⟩
theorem J1:Zb ["counts", "stays", "held", "tick", "found", "player", "row", "one"] ["counts", "stays", "held", "tick"] (Z7 Z6q):=⟨rfl,rfl,rfl,by decide +kernel,rfl,by decide +kernel,by decide +kernel⟩
theorem Z0p:Zb ["deeds", "found", "deed", "one"] ["deeds"] (Z7 Z97):=⟨rfl,rfl,rfl,by decide +kernel,rfl,by decide +kernel,by decide +kernel⟩
theorem Uj:Zb ["seed", "place"] ["seed"] (Z7 Z24):=⟨rfl,rfl,rfl,by decide +kernel,rfl,by decide +kernel,by decide +kernel⟩
theorem Zai:Zb ["number"] ["number"] (Z7 Z6n):=⟨rfl,rfl,rfl,by decide +kernel,rfl,by decide +kernel,by decide +kernel⟩
theorem sc_put:Zb ["cells", "place", "number"] ["cells", "place", "number"] (Z7 s_put):=⟨rfl,rfl,rfl,by decide +kernel,rfl,by decide +kernel,by decide +kernel⟩
theorem Z4e:Zb ["cells", "place", "other", "kept"] ["cells", "place", "other"] (Z7 Z6p):=⟨rfl,rfl,rfl,by decide +kernel,rfl,by decide +kernel,by decide +kernel⟩
theorem Z5z:Zb ["cells", "place", "other", "bound"] ["cells", "place", "other", "bound"] (Z7 Z26):=⟨rfl,rfl,rfl,by decide +kernel,rfl,by decide +kernel,by decide +kernel⟩
theorem Xl:Zb ["cells", "says", "place", "number"] ["cells", "says"] (Z7 U8):=⟨rfl,rfl,rfl,by decide +kernel,rfl,by decide +kernel,by decide +kernel⟩
theorem Zd2:Zb ["cells", "says"] ["cells", "says"] (Z7 Z99):=⟨rfl,rfl,rfl,by decide +kernel,rfl,by decide +kernel,by decide +kernel⟩
theorem Z6i:Zb ["cells", "deed", "one"] ["cells", "deed"] (Z7 Z9a):=⟨rfl,rfl,rfl,by decide +kernel,rfl,by decide +kernel,by decide +kernel⟩
theorem X8:Zb ["cells", "tick", "deeds", "done", "deed", "place"] ["cells", "tick", "deeds"] (Z7 Z12):=⟨rfl,rfl,rfl,by decide +kernel,rfl,by decide +kernel,by decide +kernel⟩
theorem Z4g:Zb ["self", "window", "ahead", "most", "held", "every", "seed"] ["self", "window", "ahead", "most", "held", "every", "seed"] (Z7 Z16):=⟨rfl,rfl,rfl,by decide +kernel,rfl,by decide +kernel,by decide +kernel⟩
theorem J7:Zb ["self", "player", "stay"] ["self", "player"] (Z7 Jl):=⟨rfl,rfl,rfl,by decide +kernel,rfl,by decide +kernel,by decide +kernel⟩
theorem Jw:Zb ["self", "player", "stay"] ["self", "player"] (Z7 Ub):=⟨rfl,rfl,rfl,by decide +kernel,rfl,by decide +kernel,by decide +kernel⟩
theorem Jv:Zb ["self", "one", "reason", "again"] ["self", "one"] (Z7 Z14):=⟨rfl,rfl,rfl,by decide +kernel,rfl,by decide +kernel,by decide +kernel⟩
theorem X3:Zb ["self", "one", "stay"] ["self", "one"] (Z7 X6):=⟨rfl,rfl,rfl,by decide +kernel,rfl,by decide +kernel,by decide +kernel⟩
theorem Xp:Zb ["self", "one", "before", "after", "place"] ["self", "one"] (Z7 Z15):=⟨rfl,rfl,rfl,by decide +kernel,rfl,by decide +kernel,by decide +kernel⟩
theorem Wz:Zb ["self", "one"] ["self", "one"] (Z7 Jj):=⟨rfl,rfl,rfl,by decide +kernel,rfl,by decide +kernel,by decide +kernel⟩
theorem Yz:Zb ["self", "name", "first", "one"] ["self", "name"] (Z7 U9):=⟨rfl,rfl,rfl,by decide +kernel,rfl,by decide +kernel,by decide +kernel⟩
theorem Z3p:Zb ["self", "tick"] ["self", "tick"] (Z7 Z03):=⟨rfl,rfl,rfl,by decide +kernel,rfl,by decide +kernel,by decide +kernel⟩
theorem Ye:Zb ["self", "tick"] ["self"] (Z7 Xb):=⟨rfl,rfl,rfl,by decide +kernel,rfl,by decide +kernel,by decide +kernel⟩
theorem Yy:Zb ["self", "first", "start", "tick"] ["self", "first"] (Z7 Xz):=⟨rfl,rfl,rfl,by decide +kernel,rfl,by decide +kernel,by decide +kernel⟩
theorem Z2s:Zb ["self", "tick"] ["self", "tick"] (Z7 Wo):=⟨rfl,rfl,rfl,by decide +kernel,rfl,by decide +kernel,by decide +kernel⟩
theorem Z0x:Zb ["self"] ["self"] (Z7 Jx):=⟨rfl,rfl,rfl,by decide +kernel,rfl,by decide +kernel,by decide +kernel⟩
theorem X9:Zb ["self", "many", "step"] ["self", "many"] (Z7 Xe):=⟨rfl,rfl,rfl,by decide +kernel,rfl,by decide +kernel,by decide +kernel⟩
theorem Xm:Zb ["self", "coming", "player"] ["self"] (Z7 Ua):=⟨rfl,rfl,rfl,by decide +kernel,rfl,by decide +kernel,by decide +kernel⟩
theorem Z2r:Zb ["self", "window"] ["self", "window"] (Z7 Wn):=⟨rfl,rfl,rfl,by decide +kernel,rfl,by decide +kernel,by decide +kernel⟩
theorem Yt:Zb ["self", "first", "tick", "cells"] ["self"] (Z7 Wm):=⟨rfl,rfl,rfl,by decide +kernel,rfl,by decide +kernel,by decide +kernel⟩
theorem Uk:Zb ["self"] ["self"] (Z7 Xn):=⟨rfl,rfl,rfl,by decide +kernel,rfl,by decide +kernel,by decide +kernel⟩
theorem Yi:Zb ["self", "tick", "kept"] ["self", "tick"] (Z7 Xg):=⟨rfl,rfl,rfl,by decide +kernel,rfl,by decide +kernel,by decide +kernel⟩
theorem Xo:Zb ["self", "tick", "start"] ["self", "tick"] (Z7 Xy):=⟨rfl,rfl,rfl,by decide +kernel,rfl,by decide +kernel,by decide +kernel⟩
theorem W9:Zb ["self", "tick"] ["self", "tick"] (Z7 J0):=⟨rfl,rfl,rfl,by decide +kernel,rfl,by decide +kernel,by decide +kernel⟩
theorem Xa:Zb ["self", "cells", "start", "tick", "step"] ["self", "cells", "start", "tick"] (Z7 Jk):=⟨rfl,rfl,rfl,by decide +kernel,rfl,by decide +kernel,by decide +kernel⟩
theorem Z96:Zb ["self"] ["self"] (Z7 Z4l):=⟨rfl,rfl,rfl,by decide +kernel,rfl,by decide +kernel,by decide +kernel⟩
theorem W8:Zb ["call", "row", "limits", "number"] ["call", "row"] (Z7 Z6m):=⟨rfl,rfl,rfl,by decide +kernel,rfl,by decide +kernel,by decide +kernel⟩
theorem J6:Zb ["call", "numbers", "ranges", "limits", "number"] ["call", "numbers"] (Z7 Z21):=⟨rfl,rfl,rfl,by decide +kernel,rfl,by decide +kernel,by decide +kernel⟩
theorem Z3o:Zb ["line", "numbers"] ["line", "numbers"] (Z7 Z01):=⟨rfl,rfl,rfl,by decide +kernel,rfl,by decide +kernel,by decide +kernel⟩
theorem Z5x:Zb ["session", "numbers"] ["session", "numbers"] (Z7 Z23):=⟨rfl,rfl,rfl,by decide +kernel,rfl,by decide +kernel,by decide +kernel⟩
theorem Z4d:Zb ["session", "numbers"] ["session", "numbers"] (Z7 Z10):=⟨rfl,rfl,rfl,by decide +kernel,rfl,by decide +kernel,by decide +kernel⟩
theorem Z4c:Zb ["session", "numbers", "one"] ["session", "numbers"] (Z7 Z6l):=⟨rfl,rfl,rfl,by decide +kernel,rfl,by decide +kernel,by decide +kernel⟩
theorem Z1z:Zb ["session", "numbers", "step"] ["session", "numbers"] (Z7 Z3b):=⟨rfl,rfl,rfl,by decide +kernel,rfl,by decide +kernel,by decide +kernel⟩
theorem Z81:Zb ["session", "numbers"] ["session", "numbers"] (Z7 Z3c):=⟨rfl,rfl,rfl,by decide +kernel,rfl,by decide +kernel,by decide +kernel⟩
theorem Z3n:Zb ["session", "numbers"] ["session", "numbers"] (Z7 Z00):=⟨rfl,rfl,rfl,by decide +kernel,rfl,by decide +kernel,by decide +kernel⟩
theorem Z7x:Zb ["session", "numbers"] ["session", "numbers"] (Z7 Z36):=⟨rfl,rfl,rfl,by decide +kernel,rfl,by decide +kernel,by decide +kernel⟩
theorem Uh:Zb ["session", "numbers", "one"] ["session", "numbers"] (Z7 Z20):=⟨rfl,rfl,rfl,by decide +kernel,rfl,by decide +kernel,by decide +kernel⟩
theorem Z80:Zb ["session", "numbers"] ["session", "numbers"] (Z7 Z3a):=⟨rfl,rfl,rfl,by decide +kernel,rfl,by decide +kernel,by decide +kernel⟩
theorem Z92:Zb ["session", "numbers"] ["session", "numbers"] (Z7 Z4h):=⟨rfl,rfl,rfl,by decide +kernel,rfl,by decide +kernel,by decide +kernel⟩
theorem Z2q:Zb ["session", "numbers"] ["session", "numbers"] (Z7 Wl):=⟨rfl,rfl,rfl,by decide +kernel,rfl,by decide +kernel,by decide +kernel⟩
theorem Zag:Zb ["session", "numbers"] ["session", "numbers"] (Z7 Z6j):=⟨rfl,rfl,rfl,by decide +kernel,rfl,by decide +kernel,by decide +kernel⟩
theorem W7:Zb ["session", "numbers", "told", "stay"] ["session", "numbers"] (Z7 Z37):=⟨rfl,rfl,rfl,by decide +kernel,rfl,by decide +kernel,by decide +kernel⟩
theorem Z7y:Zb ["session", "numbers"] ["session", "numbers"] (Z7 Z38):=⟨rfl,rfl,rfl,by decide +kernel,rfl,by decide +kernel,by decide +kernel⟩
theorem Z7z:Zb ["session", "numbers"] ["session", "numbers"] (Z7 Z39):=⟨rfl,rfl,rfl,by decide +kernel,rfl,by decide +kernel,by decide +kernel⟩
theorem Z94:Zb ["line", "call", "numbers", "doer"] ["line", "call", "numbers"] (Z7 Zbg):=⟨rfl,rfl,rfl,by decide +kernel,rfl,by decide +kernel,by decide +kernel⟩
theorem Z93:Zb ["calls", "start"] ["calls", "start"] (Z7 Z4i):=⟨rfl,rfl,rfl,by decide +kernel,rfl,by decide +kernel,by decide +kernel⟩
theorem Z4f:Zb ["calls", "start", "place"] ["calls", "start"] (Z7 Z6s):=⟨rfl,rfl,rfl,by decide +kernel,rfl,by decide +kernel,by decide +kernel⟩
theorem Wy:Zb ["calls", "start", "place"] ["calls", "start"] (Z7 Z13):=⟨rfl,rfl,rfl,by decide +kernel,rfl,by decide +kernel,by decide +kernel⟩
theorem Jr:Zb ["calls", "line", "given", "start", "told"] ["calls"] (Z7 Z02):=⟨rfl,rfl,rfl,by decide +kernel,rfl,by decide +kernel,by decide +kernel⟩
end Pr
end
section
namespace Pr
open PySem PySem.Spec PyProof.Rows L2
section
variable {P:Program} {w:World} {K:PySem.W.Frag} {mg:Str→Option Value} {base:Heap}
theorem Zcg:bootBuiltins "max" = some (.builtin "max"):=by decide +kernel
theorem bt_min:bootBuiltins "min" = some (.builtin "min"):=by decide +kernel
theorem bt_any:bootBuiltins "any" = some (.builtin "any"):=by decide +kernel
theorem bt_all:bootBuiltins "all" = some (.builtin "all"):=by decide +kernel
theorem Z9s:bootBuiltins "sorted" = some (.builtin "sorted"):=by decide +kernel
theorem Jo:bootBuiltins "len" = some (.builtin "len"):=by decide +kernel
theorem Zg6:bootBuiltins "list" = some (.type "list"):=by decide +kernel
theorem Zcf:bootBuiltins "tuple" = some (.type "tuple"):=by decide +kernel
theorem bt_dict:bootBuiltins "dict" = some (.type "dict"):=by decide +kernel
noncomputable def Zaa:Sp:=fun vs H Q _=>∃ n:Int,vs=[.int n]∧Q (.int ((n.toNat%6:Nat):Int)) H
theorem Jz (T:TX K mg):FnOk P w K mg base CX0 1 T.place_of.f T.place_of.d ["number"] Zaa:=by
 refine T.place_of.F.ok Zai (fun vs H Q E h=>?_) (fun cdv A outer s H vs Q E hr h=>?_)
 ·obtain ⟨n,rfl,_⟩:=h
  rfl
 ·obtain ⟨n,rfl,k⟩:=h
  obtain ⟨tc,hC⟩:=T.Z0h
  refine ⟨_,Z5 (Zc (pe_op Z6y (Zu (Z5l rfl) rfl T.b_max Zcg (Z0 (pv 0) (Z0 Z9 Z3))) (Zd (v:=.int 6) rfl hC ⟨tc,rfl⟩))),?_⟩
  refine ⟨_,rfl,_,_,rfl,_,_,rfl,rfl,(show (0:Int)<6 by decide),?_⟩
  have e:(if (0:Int)>n then 0 else n)%6=((n.toNat%6:Nat):Int):=by
   split <;> omega
  show Q (.int ((if (0:Int)>n then 0 else n)%6)) H
  rw[e]
  exact k
abbrev LI (H:Hp) (l:Addr) (xs:List Int):Prop:=H l=some (.lst (xs.map V.int))
def sp_put:Sp:=fun vs H Q _=>∃ (l:Addr) (c:List Int) (i:Nat) (n:Int),vs=[.ref l,.int (i:Int),.int n]∧LI H l c∧i<c.length∧Q .non (upd H l (.lst ((c.set i (n%1000003)).map V.int)))
theorem Z2y {n i:Nat} (h:i<n):ixN n (i:Int)=some i:=by
 unfold ixN
 rw[if_pos (by omega),if_pos (by omega)]
 simp
theorem U5 {c:List Int} {i:Nat} {z:Int} (h:c[i]?=some z):atI (c.map V.int) (i:Int)=some (.int z):=by
 unfold atI
 have hi:i<c.length:=(List.getElem?_eq_some_iff.mp h).1
 rw[Z2y (by rw[List.length_map];exact hi)]
 simp[h]
theorem Wf (c:List Int) (i:Nat) (z:Int):(c.map V.int).set i (.int z)=(c.set i z).map V.int:=by
 rw[List.map_set]
theorem Z9g (T:TX K mg):FnOk P w K mg base CX0 1 T.put.f T.put.d ["cells", "place", "number"] sp_put:=by
 refine T.put.F.ok sc_put (fun vs H Q E h=>?_) (fun cdv A outer s H vs Q E hr h=>?_)
 ·obtain ⟨l,c,i,n,rfl,_⟩:=h
  rfl
 ·obtain ⟨l,c,i,n,rfl,hl,hi,k⟩:=h
  obtain ⟨tc,hC⟩:=T.U3
  refine ⟨_,Z5 (Zev (pe_op Z6y (pv 2) (Zd (v:=.int 1000003) rfl hC ⟨tc,rfl⟩)) (Zey (pv 0) (pv 1) Z7v)),?_⟩
  refine ⟨_,rfl,_,_,rfl,rfl,(show (0:Int)<1000003 by decide),_,rfl,_,rfl,l,_,_,i,rfl,rfl,hl,Z2y (by rw[List.length_map];exact hi),?_⟩
  rw[Wf]
  exact k
def Zac:Sp:=fun vs H Q _=>∃ (l:Addr) (c:List Int) (i j:Nat) (x y:Int),vs=[.ref l,.int (i:Int),.int (j:Int)]∧LI H l c∧c[i]?=some x∧c[j]?=some y∧Q .non (upd H l (.lst (((c.set i y).set j x).map V.int)))
theorem Zas (T:TX K mg):FnOk P w K mg base CX0 1 T.exchange.f T.exchange.d ["cells", "place", "other"] Zac:=by
 refine T.exchange.F.ok Z4e (fun vs H Q E h=>?_) (fun cdv A outer s H vs Q E hr h=>?_)
 ·obtain ⟨l,c,i,j,x,y,rfl,_⟩:=h
  rfl
 ·obtain ⟨l,c,i,j,x,y,rfl,hl,hx,hy,k⟩:=h
  have hi:i<c.length:=(List.getElem?_eq_some_iff.mp hx).1
  have hj:j<c.length:=(List.getElem?_eq_some_iff.mp hy).1
  refine ⟨_,Z4 (Zy (i:=3) Z4e.nd rfl (Or.inl rfl) (pe_ix Zj (pv 0) (pv 1) (fun _ _=>rfl)))
   (Z4 (Zev (pe_ix Zj (pv 0) (pv 2) (fun _ _=>rfl)) (Zey (pv 0) (pv 1) Z7v))
   (Z5 (Zev (pv 3) (Zey (pv 0) (pv 2) Z7v)))),?_⟩
  refine ⟨_,rfl,_,rfl,l,_,_,_,rfl,rfl,SqL.of hl,U5 hx,?_⟩
  refine ⟨_,rfl,_,rfl,l,_,_,_,rfl,rfl,SqL.of hl,U5 hy,_,rfl,_,rfl,l,_,_,i,rfl,rfl,hl,Z2y (by rw[List.length_map];exact hi),?_⟩
  refine ⟨_,rfl,_,rfl,_,rfl,l,_,_,j,rfl,rfl,Z2,Z2y (by rw[Wf,List.length_map,List.length_set];exact hj),?_⟩
  rw[Z7h,Wf,Wf]
  exact k
def Z5w:Sp:=fun vs H Q _=>∃ (l:Addr) (c:List Int) (i j m:Nat) (x y z:Int),vs=[.ref l,.int (i:Int),.int (j:Int),.int (m:Int)]∧LI H l c∧c[i]?=some x∧c[j]?=some y∧c[m]?=some z ∧
 (x<z→Q .non (upd H l (.lst ((c.set j ((y+x)%1000003)).map V.int))))∧(¬ x<z→Q .non H)
theorem Z65 (T:TX K mg):FnOk P w K mg base CX0 2 T.add_if_less.f T.add_if_less.d ["cells", "place", "other", "bound"] Z5w:=by
 refine T.add_if_less.F.ok Z5z (fun vs H Q E h=>?_) (fun cdv A outer s H vs Q E hr h=>?_)
 ·obtain ⟨l,c,i,j,m,x,y,z,rfl,_⟩:=h
  rfl
 ·obtain ⟨l,c,i,j,m,x,y,z,rfl,hl,hx,hy,hz,k1,k2⟩:=h
  have hj:j<c.length:=(List.getElem?_eq_some_iff.mp hy).1
  refine ⟨_,Z5 (ps_if (Zr op_lt (pe_ix Zj (pv 0) (pv 1) (fun _ _=>rfl)) (pe_ix Zj (pv 0) (pv 3) (fun _ _=>rfl)) (Y8 _))
   (Z5 (Zx (Zf (Z9g T) hr rfl T.put.m T.put.F.kp T.put.b .nil pass0 (Z0 (pv 0) (Z0 (pv 2) (Z0 (pe_op Yx (pe_ix Zj (pv 0) (pv 2) (fun _ _=>rfl)) (pe_ix Zj (pv 0) (pv 1) (fun _ _=>rfl))) Z3)))))) Zp),?_⟩
  refine ⟨_,rfl,_,rfl,l,_,_,_,rfl,rfl,SqL.of hl,U5 hx,_,rfl,_,rfl,l,_,_,_,rfl,rfl,SqL.of hl,U5 hz,_,_,rfl,rfl,_,rfl,?_⟩
  refine ite2 (fun q=>?_) (fun q=>?_)
  ·refine ⟨_,rfl,_,rfl,_,rfl,_,rfl,l,_,_,_,rfl,rfl,SqL.of hl,U5 hy,_,rfl,_,rfl,l,_,_,_,rfl,rfl,SqL.of hl,U5 hx,_,_,rfl,rfl,?_⟩
   exact ⟨l,c,j,_,rfl,hl,hj,k1 (of_decide_eq_true q)⟩
  ·exact k2 (fun z=>q (decide_eq_true z))
end
end Pr
end
section
namespace Pr
open PySem PySem.Spec PyProof.Rows L2
open Vbwsaf (Input Deed Stay Window Cells)
structure CB (c:List Int):Prop where
 len:c.length=6
 bd:∀ x∈c,0≤x∧x<1000003
theorem CB.get {c:List Int} (h:CB c) (i:Nat) (hi:i<6):∃ x,c[i]?=some x∧0≤x∧x<1000003∧c.getD i 0=x:=by
 have hl:i<c.length:=by rw[h.len];exact hi
 refine ⟨c[i],List.getElem?_eq_getElem hl,(h.bd _ (List.getElem_mem hl)).1,(h.bd _ (List.getElem_mem hl)).2,?_⟩
 simp[List.getD,hl]
theorem CB.set {c:List Int} (h:CB c) (i:Nat) (z:Int):CB (c.set i (z%1000003)):=by
 refine ⟨by rw[List.length_set];exact h.len,fun x hx=>?_⟩
 rcases List.mem_or_eq_of_mem_set hx with q | q
 ·exact h.bd x q
 ·subst q
  omega
theorem CB.setCell {c:List Int} (h:CB c) (i n:Int):CB (Vbwsaf.setCell c i n):=h.set _ _
theorem CB.does {c:List Int} (h:CB c) (d:Deed):CB (Vbwsaf.does c d):=by
 unfold Vbwsaf.does
 repeat' split
 all_goals first | exact h.setCell _ _ | exact (h.setCell _ _).setCell _ _ | exact h
theorem CB.foldl:∀ (l:List Deed) {c:List Int},CB c→CB (l.foldl Vbwsaf.does c)
 | [],_,h=>h
 | d::l,_,h=>CB.foldl l (h.does d)
theorem Z2f (c:List Int) (t:Nat) (l:List Deed):CB (Vbwsaf.cells c t l):=by
 unfold Vbwsaf.cells
 refine ⟨by simp,fun x hx=>?_⟩
 obtain ⟨i,_,rfl⟩:=List.mem_map.mp hx
 unfold Vbwsaf.MOD
 omega
theorem Z3y (n:Int):CB (Vbwsaf.first n):=by
 unfold Vbwsaf.first
 refine ⟨by simp,fun x hx=>?_⟩
 obtain ⟨i,_,rfl⟩:=List.mem_map.mp hx
 unfold Vbwsaf.MOD
 omega
noncomputable def does3 (c:List Int) (a i n:Int):List Int:=
 if a=0 then Vbwsaf.setCell c i n else if a=1 then Vbwsaf.setCell c i (Vbwsaf.cell c i+n) else if a=2 then Vbwsaf.setCell (Vbwsaf.setCell c i (Vbwsaf.cell c n)) n (Vbwsaf.cell c i) else if a=3 then Vbwsaf.setCell c i (Vbwsaf.cell c i*n) else c
def doesN (c:List Int) (l:List Int):List Int:=match l with
 | [a,i,n]=>does3 c a i n
 | [a,i,j,k]=>if a=4 then (if Vbwsaf.cell c i<Vbwsaf.cell c k then Vbwsaf.setCell c j (Vbwsaf.cell c j+Vbwsaf.cell c i) else c) else c
 | _=>c
theorem does_eq (c:List Int) (x:Input):Vbwsaf.does c ⟨x,false⟩=doesN c x.data:=by
 unfold Vbwsaf.does doesN
 rw[if_neg (by simp)]
 rcases x with ⟨p,s,n,t,data⟩
 show (match data with
  | [0,i,n]=>Vbwsaf.setCell c i n
  | [1,i,n]=>Vbwsaf.setCell c i (Vbwsaf.cell c i+n)
  | [2,i,j]=>Vbwsaf.setCell (Vbwsaf.setCell c i (Vbwsaf.cell c j)) j (Vbwsaf.cell c i)
  | [3,i,n]=>Vbwsaf.setCell c i (Vbwsaf.cell c i*n)
  | [4,i,j,k]=>if Vbwsaf.cell c i<Vbwsaf.cell c k then Vbwsaf.setCell c j (Vbwsaf.cell c j+Vbwsaf.cell c i) else c
  | _=>c)=_
 rcases data with _ | ⟨a,_ | ⟨i,_ | ⟨n,_ | ⟨k,_ | ⟨e,r⟩⟩⟩⟩⟩
 ·rfl
 ·simp
 ·simp
 ·show _=does3 c a i n
  unfold does3
  by_cases h0:a=0
  ·subst h0;rfl
  by_cases h1:a=1
  ·subst h1;rfl
  by_cases h2:a=2
  ·subst h2;rfl
  by_cases h3:a=3
  ·subst h3;rfl
  rw[if_neg h0,if_neg h1,if_neg h2,if_neg h3]
  split <;> simp_all
 ·show _=if a=4 then (if Vbwsaf.cell c i<Vbwsaf.cell c k then Vbwsaf.setCell c n (Vbwsaf.cell c n+Vbwsaf.cell c i) else c) else c
  by_cases h4:a=4
  ·subst h4;rfl
  ·rw[if_neg h4]
   split <;> simp_all
 ·simp
noncomputable def inK (x:Input):Nest.NK:=([(x.player:Int),(x.stay:Int),(x.number:Int),(x.tick:Int)],x.data)
abbrev InAt (H:Hp) (a:Addr) (x:Input):Prop:=NAt H (inK x) a
def DeAt (H:Hp) (a:Addr) (d:Deed):Prop:=∃ b,H a=some (.tup [.ref b,.int (if d.guess=true then 1 else 0)])∧InAt H b d.input
theorem InAt.same {H H':Hp} {a:Addr} {x:Input} (h:InAt H a x) (s:Same H H'):InAt H' a x:=NAt.mono h fun b xs e=>s b _ e
theorem DeAt.same {H H':Hp} {a:Addr} {d:Deed} (h:DeAt H a d) (s:Same H H'):DeAt H' a d:=let ⟨b,h1,h2⟩:=h;⟨b,s _ _ h1,h2.same s⟩
def Only (l:Addr) (H H':Hp):Prop:=∀ b,b≠l→H' b=H b
theorem Only.refl (l:Addr) (H:Hp):Only l H H:=fun _ _=>rfl
theorem Only.upd (l:Addr) (H:Hp) (o:HO):Only l H (upd H l o):=fun b hb=>Z8 hb
theorem Z0v {c:List Int} (h:CB c) (i:Int):∃ x,c[i.toNat%6]?=some x∧Vbwsaf.cell c i=x∧0≤x∧x<1000003:=by
 obtain ⟨x,h1,h2,h3,h4⟩:=h.get (i.toNat%6) (Nat.mod_lt _ (by decide))
 exact ⟨x,h1,h4,h2,h3⟩
theorem lt6 (c:List Int) (h:CB c) (i:Int):i.toNat%6<c.length:=by rw[h.len];exact Nat.mod_lt _ (by decide)
section
variable {P:Program} {w:World} {K:PySem.W.Frag} {mg:Str→Option Value} {base:Heap}
def Z1c:Sp:=fun vs H Q _=>∃ (l q:Addr) (c:List Int) (a i n:Int),vs=[.ref l,.ref q]∧LI H l c∧CB c∧H q=some (.tup [.int a,.int i,.int n]) ∧
 ∀ H',LI H' l (does3 c a i n)→Only l H H'→Q .non H'
theorem Z1k (T:TX K mg):FnOk P w K mg base CX0 3 T.do_three_numbers.f T.do_three_numbers.d ["cells", "says"] Z1c:=by
 refine T.do_three_numbers.F.ok Xl (fun vs H Q E h=>?_) (fun cdv A outer s H vs Q E hr h=>?_)
 ·obtain ⟨l,q,c,a,i,n,rfl,_⟩:=h
  rfl
 ·obtain ⟨l,q,c,a,i,n,rfl,hl,hc,hq,k⟩:=h
  refine ⟨_,(Z4 (Zy (i:=2) Xl.nd rfl (Or.inl rfl) (Zf (Jz T) (hr.mono (by decide)) rfl T.place_of.m T.place_of.F.kp T.place_of.b .nil pass0 (Z0 (pe_ix Yg (pv 1) Z9 (fun _ _=>rfl)) Z3)))
   (Z4 (Zy (i:=3) Xl.nd rfl (Or.inl rfl) (pe_ix Yg (pv 1) Z9 (fun _ _=>rfl)))
   (Z5 (ps_if (Zr op_eq (pe_ix Yg (pv 1) Z9 (fun _ _=>rfl)) Z9 (Y8 _)) (Z5 (Zx (Zf (Z9g T) (hr.mono (by decide)) rfl T.put.m T.put.F.kp T.put.b .nil pass0 (Z0 (pv 0) (Z0 (pv 2) (Z0 (pv 3) Z3)))))) (Z5 (ps_if (Zr op_eq (pe_ix Yg (pv 1) Z9 (fun _ _=>rfl)) Z9 (Y8 _)) (Z5 (Zx (Zf (Z9g T) (hr.mono (by decide)) rfl T.put.m T.put.F.kp T.put.b .nil pass0 (Z0 (pv 0) (Z0 (pv 2) (Z0 (pe_op Yx (pe_ix Zj (pv 0) (pv 2) (fun _ _=>rfl)) (pv 3)) Z3)))))) (Z5 (ps_if (Zr op_eq (pe_ix Yg (pv 1) Z9 (fun _ _=>rfl)) Z9 (Y8 _)) (Z5 (Zx (Zf (Zas T) (hr.mono (by decide)) rfl T.exchange.m T.exchange.F.kp T.exchange.b .nil pass0 (Z0 (pv 0) (Z0 (pv 2) (Z0 (Zf (Jz T) (hr.mono (by decide)) rfl T.place_of.m T.place_of.F.kp T.place_of.b .nil pass0 (Z0 (pv 3) Z3)) Z3)))))) (Z5 (ps_if (Zr op_eq (pe_ix Yg (pv 1) Z9 (fun _ _=>rfl)) Z9 (Y8 _)) (Z5 (Zx (Zf (Z9g T) (hr.mono (by decide)) rfl T.put.m T.put.F.kp T.put.b .nil pass0 (Z0 (pv 0) (Z0 (pv 2) (Z0 (pe_op op_mul (pe_ix Zj (pv 0) (pv 2) (fun _ _=>rfl)) (pv 3)) Z3)))))) Zp)))))))))),?_⟩
  have ix:∀ (j:Nat) (v:V),([V.int a,V.int i,V.int n]:List V)[j]?=some v→atI ([V.int a,V.int i,V.int n]:List V) (j:Int)=some v:=fun j v e=>by
   have hj:j<([V.int a,V.int i,V.int n]:List V).length:=(List.getElem?_eq_some_iff.mp e).1
   unfold atI
   rw[Z2y hj]
   exact e
  obtain ⟨x,gx,ex,x0,x1⟩:=Z0v hc i
  obtain ⟨y,gy,ey,y0,y1⟩:=Z0v hc n
  refine ⟨_,rfl,q,_,_,_,rfl,rfl,SqT.of hq,ix 1 _ rfl,i,rfl,?_⟩
  refine ⟨_,rfl,q,_,_,_,rfl,rfl,SqT.of hq,ix 2 _ rfl,?_⟩
  refine ⟨_,rfl,q,_,_,_,rfl,rfl,SqT.of hq,ix 0 _ rfl,rfl,_,rfl,?_⟩
  refine ite2 (fun z=>?_) (fun z=>?_)
  ·have z:a=0:=by simpa using z
   refine ⟨_,rfl,_,rfl,_,rfl,l,c,i.toNat%6,n,rfl,hl,lt6 c hc i,k _ ?_ (Only.upd _ _ _)⟩
   show upd H l _ l=_
   rw[Z2]
   unfold does3
   rw[if_pos z]
   rfl
  have z0:¬ a=0:=fun e=>z (by simp[e])
  refine ⟨_,rfl,q,_,_,_,rfl,rfl,SqT.of hq,ix 0 _ rfl,rfl,_,rfl,?_⟩
  refine ite2 (fun z=>?_) (fun z=>?_)
  ·have z:a=1:=by simpa using z
   refine ⟨_,rfl,_,rfl,_,rfl,_,rfl,l,_,_,_,rfl,rfl,SqL.of hl,U5 gx,_,rfl,_,_,rfl,rfl,l,c,i.toNat%6,x+n,rfl,hl,lt6 c hc i,k _ ?_ (Only.upd _ _ _)⟩
   show upd H l _ l=_
   rw[Z2]
   unfold does3
   rw[if_neg z0,if_pos z,ex]
   rfl
  have z1:¬ a=1:=fun e=>z (by simp[e])
  refine ⟨_,rfl,q,_,_,_,rfl,rfl,SqT.of hq,ix 0 _ rfl,rfl,_,rfl,?_⟩
  refine ite2 (fun z=>?_) (fun z=>?_)
  ·have z:a=2:=by simpa using z
   refine ⟨_,rfl,_,rfl,_,rfl,n,rfl,l,c,i.toNat%6,n.toNat%6,x,y,rfl,hl,gx,gy,k _ ?_ (Only.upd _ _ _)⟩
   show upd H l _ l=_
   rw[Z2]
   unfold does3
   rw[if_neg z0,if_neg z1,if_pos z,ex,ey]
   unfold Vbwsaf.setCell
   have ey':y%Vbwsaf.MOD=y:=Int.emod_eq_of_lt y0 y1
   have ex':x%Vbwsaf.MOD=x:=Int.emod_eq_of_lt x0 x1
   rw[ex',ey']
  have z2:¬ a=2:=fun e=>z (by simp[e])
  refine ⟨_,rfl,q,_,_,_,rfl,rfl,SqT.of hq,ix 0 _ rfl,rfl,_,rfl,?_⟩
  refine ite2 (fun z=>?_) (fun z=>?_)
  ·have z:a=3:=by simpa using z
   refine ⟨_,rfl,_,rfl,_,rfl,_,rfl,l,_,_,_,rfl,rfl,SqL.of hl,U5 gx,_,rfl,_,_,rfl,rfl,.inl ⟨by omega,by omega⟩,l,c,i.toNat%6,x*n,rfl,hl,lt6 c hc i,k _ ?_ (Only.upd _ _ _)⟩
   show upd H l _ l=_
   rw[Z2]
   unfold does3
   rw[if_neg z0,if_neg z1,if_neg z2,if_pos z,ex]
   rfl
  have z3:¬ a=3:=fun e=>z (by simp[e])
  refine k H ?_ (Only.refl _ _)
  unfold does3
  rw[if_neg z0,if_neg z1,if_neg z2,if_neg z3]
  exact hl
theorem Zl {vs:List V} {j:Nat} {v:V} (e:vs[j]?=some v):atI vs (j:Int)=some v:=by
 have hj:j<vs.length:=(List.getElem?_eq_some_iff.mp e).1
 unfold atI
 rw[Z2y hj]
 exact e
def Zcx:Sp:=fun vs H Q _=>∃ (l q:Addr) (c l4:List Int),vs=[.ref l,.ref q]∧LI H l c∧CB c∧H q=some (.tup (l4.map V.int))∧∀ H',LI H' l (doesN c l4)→Only l H H'→Q .non H'
theorem Zd7 (T:TX K mg):FnOk P w K mg base CX0 4 T.do_says.f T.do_says.d ["cells", "says"] Zcx:=by
 refine T.do_says.F.ok Zd2 (fun vs H Q E h=>?_) (fun cdv A outer s H vs Q E hr h=>?_)
 ·obtain ⟨l,q,c,l4,rfl,_⟩:=h
  rfl
 ·obtain ⟨l,q,c,l4,rfl,hl,hc,hq,k⟩:=h
  refine ⟨_,(Z5 (ps_if (Zr op_eq (Zu Y2 rfl T.b_len Jo (Z0 (pv 1) Z3)) Z9 (Y8 _)) (Z5 (Zx (Zf (Z1k T) (hr.mono (by decide)) rfl T.do_three_numbers.m T.do_three_numbers.F.kp T.do_three_numbers.b .nil pass0 (Z0 (pv 0) (Z0 (pv 1) Z3))))) (Z5 (ps_if (PW.pt (Zer (Zr op_eq (Zu Y2 rfl T.b_len Jo (Z0 (pv 1) Z3)) Z9 (Y8 _)) (Zak (Zr op_eq (pe_ix Yg (pv 1) Z9 (fun _ _=>rfl)) Z9 (Y8 _))))) (Z5 (Zx (Zf (Z65 T) (hr.mono (by decide)) rfl T.add_if_less.m T.add_if_less.F.kp T.add_if_less.b .nil pass0 (Z0 (pv 0) (Z0 (Zf (Jz T) (hr.mono (by decide)) rfl T.place_of.m T.place_of.F.kp T.place_of.b .nil pass0 (Z0 (pe_ix Yg (pv 1) Z9 (fun _ _=>rfl)) Z3)) (Z0 (Zf (Jz T) (hr.mono (by decide)) rfl T.place_of.m T.place_of.F.kp T.place_of.b .nil pass0 (Z0 (pe_ix Yg (pv 1) Z9 (fun _ _=>rfl)) Z3)) (Z0 (Zf (Jz T) (hr.mono (by decide)) rfl T.place_of.m T.place_of.F.kp T.place_of.b .nil pass0 (Z0 (pe_ix Yg (pv 1) Z9 (fun _ _=>rfl)) Z3)) Z3))))))) Zp)))),?_⟩
  have len:((l4.map V.int).length:Int)=(l4.length:Int):=by rw[List.length_map]
  refine ⟨_,rfl,q,_,rfl,.inr (SqT.of hq),rfl,_,rfl,?_⟩
  refine ite2 (fun z=>?_) (fun z=>?_)
  ·have z:l4.length=3:=by
    have:=of_decide_eq_true z
    injection this with e
    rw[len] at e
    omega
   obtain ⟨a,i,n,rfl⟩:∃ a i n,l4=[a,i,n]:=by
    match l4,z with
    | [a,i,n],_=>exact ⟨a,i,n,rfl⟩
   exact ⟨_,rfl,_,rfl,l,q,c,a,i,n,rfl,hl,hc,hq,fun H' h1 h2=>k H' h1 h2⟩
  have z3:¬ l4.length=3:=fun e=>z (decide_eq_true (by rw[len,e];rfl))
  refine ⟨_,rfl,q,_,rfl,.inr (SqT.of hq),rfl,_,rfl,?_⟩
  refine ite2 (fun z=>?_) (fun z=>?_)
  ·have z:l4.length=4:=by
    have:=of_decide_eq_true z
    injection this with e
    rw[len] at e
    omega
   obtain ⟨a,i,j,m,rfl⟩:∃ a i j m,l4=[a,i,j,m]:=by
    match l4,z with
    | [a,i,j,m],_=>exact ⟨a,i,j,m,rfl⟩
   refine ⟨_,rfl,q,_,_,_,rfl,rfl,SqT.of hq,Zl (j:=0) rfl,rfl,_,rfl,?_⟩
   refine ite2 (fun y=>?_) (fun y=>?_)
   ·have y:a=4:=by
     have:=of_decide_eq_true y
     injection this
    subst y
    obtain ⟨x1,g1,e1,_,_⟩:=Z0v hc i
    obtain ⟨x2,g2,e2,_,_⟩:=Z0v hc j
    obtain ⟨x3,g3,e3,_,_⟩:=Z0v hc m
    refine ⟨_,rfl,_,rfl,q,_,_,_,rfl,rfl,SqT.of hq,Zl (j:=1) rfl,i,rfl,_,rfl,q,_,_,_,rfl,rfl,SqT.of hq,Zl (j:=2) rfl,j,rfl,_,rfl,q,_,_,_,rfl,rfl,SqT.of hq,Zl (j:=3) rfl,m,rfl,?_⟩
    refine ⟨l,c,_,_,_,x1,x2,x3,rfl,hl,g1,g2,g3,fun hlt=>k _ ?_ (Only.upd _ _ _),fun hlt=>k _ ?_ (Only.refl _ _)⟩
    ·show upd H l _ l=_
     rw[Z2]
     show _=some (HO.lst ((if (4:Int)=4 then (if Vbwsaf.cell c i<Vbwsaf.cell c m then Vbwsaf.setCell c j (Vbwsaf.cell c j+Vbwsaf.cell c i) else c) else c).map V.int))
     rw[if_pos rfl,e1,e2,e3,if_pos hlt]
     rfl
    ·show H l=some (HO.lst ((if (4:Int)=4 then (if Vbwsaf.cell c i<Vbwsaf.cell c m then Vbwsaf.setCell c j (Vbwsaf.cell c j+Vbwsaf.cell c i) else c) else c).map V.int))
     rw[if_pos rfl,e1,e3,if_neg hlt]
     exact hl
   ·have y:¬ a=4:=fun e=>y (decide_eq_true (by rw[e]))
    refine k H ?_ (Only.refl _ _)
    show H l=some (HO.lst ((if a=4 then (if Vbwsaf.cell c i<Vbwsaf.cell c m then Vbwsaf.setCell c j (Vbwsaf.cell c j+Vbwsaf.cell c i) else c) else c).map V.int))
    rw[if_neg y]
    exact hl
  have z4:¬ l4.length=4:=fun e=>z (decide_eq_true (by rw[len,e];rfl))
  refine k H ?_ (Only.refl _ _)
  have:doesN c l4=c:=by
   rcases l4 with _ | ⟨a,_ | ⟨i,_ | ⟨n,_ | ⟨m,_ | ⟨e,r⟩⟩⟩⟩⟩
   ·rfl
   ·rfl
   ·rfl
   ·simp at z3
   ·simp at z4
   ·rfl
  rw[this]
  exact hl
end
end Pr
end
section
namespace Pr
open PySem PySem.Spec PyProof.Rows L2
open Vbwsaf (Input Deed Stay Window Cells)
section
variable {P:Program} {w:World} {K:PySem.W.Frag} {mg:Str→Option Value} {base:Heap}
noncomputable def Zcy:Sp:=fun vs H Q _=>∃ (l q:Addr) (c:List Int) (d:Deed),vs=[.ref l,.ref q]∧LI H l c∧CB c∧DeAt H q d∧d.input.player<6∧∀ H',LI H' l (Vbwsaf.does c d)→Only l H H'→Q .non H'
theorem Zd8 (T:TX K mg):FnOk P w K mg base CX0 5 T.do_deed.f T.do_deed.d ["cells", "deed"] Zcy:=by
 refine T.do_deed.F.ok Z6i (fun vs H Q E h=>?_) (fun cdv A outer s H vs Q E hr h=>?_)
 ·obtain ⟨l,q,c,d,rfl,_⟩:=h
  rfl
 ·obtain ⟨l,q,c,d,rfl,hl,hc,⟨b,hq,db,hb1,hb2⟩,hp,k⟩:=h
  obtain ⟨t_PLAYER,Xd⟩:=T.Xd
  obtain ⟨t_SAYS,Z3f⟩:=T.Z3f
  refine ⟨_,(Z4 (Zy (i:=2) Z6i.nd rfl (Or.inl rfl) (pe_ix Yg (pv 1) Z9 (fun _ _=>rfl)))
   (Z5 (ps_if (Zr op_eq (pe_ix Yg (pv 1) Z9 (fun _ _=>rfl)) Z9 (Y8 _)) (Z5 (Zx (Zf (Z9g T) (hr.mono (by decide)) rfl T.put.m T.put.F.kp T.put.b .nil pass0 (Z0 (pv 0) (Z0 (pe_ix Yg (pv 2) (Zd (v:=.int 0) rfl Xd ⟨t_PLAYER,rfl⟩) (fun _ _=>rfl)) (Z0 (pe_op Yx (pe_ix Zj (pv 0) (pe_ix Yg (pv 2) (Zd (v:=.int 0) rfl Xd ⟨t_PLAYER,rfl⟩) (fun _ _=>rfl)) (fun _ _=>rfl)) Z9) Z3)))))) (Z5 (Zx (Zf (Zd7 T) (hr.mono (by decide)) rfl T.do_says.m T.do_says.F.kp T.do_says.b .nil pass0 (Z0 (pv 0) (Z0 (pe_ix Yg (pv 2) (Zd (v:=.int 4) rfl Z3f ⟨t_SAYS,rfl⟩) (fun _ _=>rfl)) Z3)))))))),?_⟩
  have hpl:(d.input.player:Int).toNat%6=d.input.player:=by omega
  obtain ⟨x,gx,ex,x0,x1⟩:=Z0v hc (d.input.player:Int)
  rw[hpl] at gx
  have hlt:d.input.player<c.length:=by rw[hc.len];exact hp
  refine ⟨_,rfl,q,_,_,_,rfl,rfl,SqT.of hq,Zl (j:=0) rfl,?_⟩
  refine ⟨_,rfl,q,_,_,_,rfl,rfl,SqT.of hq,Zl (j:=1) rfl,rfl,_,rfl,?_⟩
  refine ite2 (fun z=>?_) (fun z=>?_)
  ·have g:d.guess=true:=by
    have:=of_decide_eq_true z
    injection this with e
    by_cases g:d.guess=true
    ·exact g
    ·rw[if_neg g] at e;cases e
   refine ⟨_,rfl,_,rfl,b,_,_,_,rfl,rfl,SqT.of hb1,Zl (j:=0) rfl,_,rfl,_,rfl,b,_,_,_,rfl,rfl,SqT.of hb1,Zl (j:=0) rfl,l,_,_,_,rfl,rfl,SqL.of hl,U5 gx,_,_,rfl,rfl,?_⟩
   refine ⟨l,c,d.input.player,x+1,rfl,hl,hlt,k _ ?_ (Only.upd _ _ _)⟩
   show upd H l _ l=_
   rw[Z2]
   unfold Vbwsaf.does
   rw[if_pos g]
   unfold Vbwsaf.setCell
   rw[hpl,ex]
   rfl
  ·have g:¬ d.guess=true:=fun e=>z (decide_eq_true (by rw[if_pos e]))
   refine ⟨_,rfl,_,rfl,b,_,_,_,rfl,rfl,SqT.of hb1,Zl (j:=4) rfl,?_⟩
   refine ⟨l,db,c,d.input.data,rfl,hl,hc,hb2,fun H' h1 h2=>k H' ?_ h2⟩
   rw[← does_eq] at h1
   have e:d=⟨d.input,false⟩:=by
    cases d with
    | mk i gs=>
     cases gs with
     | false=>rfl
     | true=>exact absurd rfl g
   rw[e]
   exact h1
def Lof {α:Type} (R:Hp→Addr→α→Prop) (H:Hp) (l:Addr) (xs:List α):Prop:=∃ as:List Addr,H l=some (.lst (as.map V.ref))∧Paired (R H) as xs
theorem Lof.same {α:Type} {R:Hp→Addr→α→Prop} (mono:∀ {H H':Hp} {a:Addr} {x:α},R H a x→Same H H'→R H' a x) {H H':Hp} {l:Addr} {xs:List α} (h:Lof R H l xs) (s:Same H H'):Lof R H' l xs:=
 let ⟨as,h1,h2⟩:=h;⟨as,s _ _ h1,Paired.mapP h2 fun _ _ r=>mono r s⟩
theorem Only.same {l:Addr} {H H':Hp} {G:Hp} (h:Only l H H') (s:Same G H) (hl:G l=none):Same G H':=fun b o e=>by
 rw[h b (Z6 e hl)];exact s b o e
theorem _root_.L2.Same.laid {H G:Hp} {p:Addr} {o:HO} (s:Same G H) (hp:H p=Option.none):Same G (upd H p o):=fun b u e=>by
 rw[Z8 (Z6 (s _ _ e) hp)];exact s b u e
theorem _root_.L2.Same.new {H:Hp} {p:Addr} {o:HO} (hp:H p=Option.none):Same H (upd H p o):=Same.laid (Same.refl H) hp
noncomputable def Z45:Sp:=fun vs H Q _=>∃ (l q:Addr) (c:List Int) (t:Nat) (ds:List Deed),vs=[.ref l,.int (t:Int),.ref q]∧LI H l c∧CB c∧Lof DeAt H q ds∧(∀ d∈ds,d.input.player<6) ∧
 ∀ H' p,Same H H'→H p=none→LI H' p (Vbwsaf.cells c t ds)→Q (.ref p) H'
theorem Y5 {α β:Type} {R:α→β→Prop} {as:List α} {xs:List β} (h:Paired R as xs) {i:Nat} {a:α} (e:as[i]?=some a):∃ x,xs[i]?=some x∧R a x:=Z2t h e
theorem Xc {as:List Addr} {i:Nat} {y:V} (h:(as.map V.ref)[i]?=some y):∃ a,as[i]?=some a∧y=.ref a:=by
 rw[List.getElem?_map] at h
 cases e:as[i]? with
 | none=>rw[e] at h;cases h
 | some a=>rw[e] at h;exact ⟨a,rfl,(Option.some.inj h).symm⟩
theorem Zdk {α β:Type} (f:β→α→β) (b:β) {l:List α} {i:Nat} {x:α} (h:l[i]?=some x):(l.take (i+1)).foldl f b=f ((l.take i).foldl f b) x:=by
 rw[List.take_add_one,h,List.foldl_append]
 rfl
theorem Z07 (T:TX K mg):FnOk P w K mg base CX0 6 T.cells_behind.f T.cells_behind.d ["cells", "tick", "deeds"] Z45:=by
 refine T.cells_behind.F.ok X8 (fun vs H Q E h=>?_) (fun cdv A outer s H vs Q E hr h=>?_)
 ·obtain ⟨l,q,c,t,ds,rfl,_⟩:=h
  rfl
 ·obtain ⟨l,q,c,t,ds,rfl,hl,hc,⟨as,hq,hp⟩,hpl,k⟩:=h
  obtain ⟨t_CELLS,Z0h⟩:=T.Z0h
  obtain ⟨t_MODULUS,U3⟩:=T.U3
  refine ⟨_,(Z4 (Zy (i:=3) X8.nd rfl (Or.inr rfl) (Z06 Z9p rfl T.b_list Zg6 (Z0 (pv 0) Z3)))
   (Z4 (Jy PassesOwn.never rfl (Ul (pv 2)) (Y4 (i:=4) X8.nd rfl (Or.inl rfl)) (Z5 (Zx (Zf (Zd8 T) (hr.mono (by decide)) rfl T.do_deed.m T.do_deed.F.kp T.do_deed.b .nil pass0 (Z0 (pv 3) (Z0 (pv 4) Z3))))))
   (Z5 (Zc (pe_lc (own:=[("place",5)]) rfl X8.nd (J8 rfl T.b_range (Z0 (Zd (v:=.int 6) rfl Z0h ⟨t_CELLS,rfl⟩) Z3)) (Xw rfl) (fun _ _ _ _ _=>(Y4 (i:=5) X8.nd rfl (Or.inl rfl))) (fun _ _ _ _ _=>Z1j) (fun _ _ _ _ _=>(pe_op Z6y (pe_op Yx (pe_op Yx (pe_ix (Zc1 (K:=K)) (pv 3) (pv 5) (fun _ _=>rfl)) (pe_ix (Zc1 (K:=K)) (pv 3) (pe_op Z6y (pe_op Yx (pv 5) Z9) (Zd (v:=.int 6) rfl Z0h ⟨t_CELLS,rfl⟩)) (fun _ _=>rfl))) (pv 1)) (Zd (v:=.int 1000003) rfl U3 ⟨t_MODULUS,rfl⟩)))))))),?_⟩
  refine ⟨_,rfl,l,_,rfl,.inl (SqL.of hl),fun d0 hd0=>?_⟩
  have s1:Same H (upd H d0 (.lst (c.map V.int))):=Same.new hd0
  refine ⟨_,rfl,q,rfl,⟨_,SqL.of (s1 _ _ hq)⟩,Z2b (K:=K) (a:=q) (xs:=as.map V.ref) (fun i σ H'=>∃ v:Option V,σ=[some (.ref l),some (.int (t:Int)),some (.ref q),some (.ref d0),v,none]∧Same H H'∧LI H' d0 ((ds.take i).foldl Vbwsaf.does c))
   ⟨none,rfl,s1,Z2⟩ (fun i σ H' _ ⟨_,_,s2,_⟩=>SqL.of (s2 _ _ hq)) ?_ ?_⟩
  ·rintro i y σ H' hi ⟨v,rfl,s2,h2⟩
   obtain ⟨a,ha,rfl⟩:=Xc hi
   obtain ⟨d,hd,da⟩:=Y5 hp ha
   refine ⟨_,rfl,_,rfl,d0,a,_,d,rfl,h2,CB.foldl _ hc,da.same s2,hpl d (List.mem_of_getElem? hd),fun H'' h3 o3=>?_⟩
   exact ⟨_,rfl,o3.same s2 hd0,by rw[Zdk _ _ hd];exact h3⟩
  ·rintro σ H2 ⟨v,rfl,s2,h2⟩
   have hlen:as.length=ds.length:=Paired.length hp
   rw[List.length_map,hlen,List.take_length] at h2
   have cb:CB (ds.foldl Vbwsaf.does c):=CB.foldl ds hc
   refine ⟨6,rfl,by decide,by decide,fun D hD=>?_⟩
   have hDH:H D=none:=s2.free hD
   refine Z8k (lo:=0) (n:=6) (fun i H'=>Same H H'∧LI H' d0 (ds.foldl Vbwsaf.does c)∧LI H' D ((Vbwsaf.cells c t ds).take i)) ⟨s2.laid hD,?_,Z2⟩ ?_ ?_
   ·show upd H2 D _ d0=_
    rw[Z8 (Z6 h2 hD)]
    exact h2
   ·rintro i H3 hi ⟨s3,h3,hD3⟩
    obtain ⟨x,gx,_,_,ex⟩:=cb.get i hi
    obtain ⟨y,gy,_,_,ey⟩:=cb.get ((i+1)%6) (Nat.mod_lt _ (by decide))
    refine ⟨rfl,?_⟩
    simp only[tYes,if_true]
    refine ⟨_,rfl,_,rfl,d0,_,_,_,rfl,rfl,SqL.of h3,(by rw[Int.zero_add];exact U5 gx),_,rfl,_,rfl,_,_,rfl,rfl,_,_,rfl,rfl,(show (0:Int)<6 by decide),d0,_,_,_,rfl,rfl,SqL.of h3,(by
     have e:((0:Int)+(i:Int)+1)%6=(((i+1)%6:Nat):Int):=by omega
     rw[e];exact U5 gy),_,_,rfl,rfl,_,rfl,_,_,rfl,rfl,_,_,rfl,rfl,(show (0:Int)<1000003 by decide),_,hD3,?_,?_⟩
    ·rw[List.length_map,List.length_take]
     exact Nat.lt_of_le_of_lt (Nat.min_le_left _ _) (by rw[sizeLine_eq];omega)
    ·have hDl:d0≠D:=Z6 h2 hD
     refine ⟨fun b o e=>?_,?_,?_⟩
     ·rw[Z8 (Z6 e hDH)];exact s3 b o e
     ·show upd H3 D _ d0=_
      rw[Z8 hDl];exact h3
     ·show upd H3 D _ D=_
      rw[Z2]
      have e:(Vbwsaf.cells c t ds)[i]?=some ((x+y+(t:Int))%1000003):=by
       unfold Vbwsaf.cells
       rw[List.getElem?_map,List.getElem?_range hi,Option.map_some,ex,ey]
       rfl
      rw[List.take_add_one,e,List.map_append]
      rfl
   ·rintro H3 ⟨s3,h3,hD3⟩
    refine k H3 D s3 hDH ?_
    have e:(Vbwsaf.cells c t ds).length≤6:=by rw[(Z2f c t ds).len];exact Nat.le_refl _
    rw[List.take_of_length_le e] at hD3
    exact hD3
noncomputable def Z5u:Sp:=fun vs H Q _=>∃ n:Int,vs=[.int n]∧∀ H' p,Same H H'→H p=none→LI H' p (Vbwsaf.first n)→Q (.ref p) H'
theorem Z64 (T:TX K mg):FnOk P w K mg base CX0 1 T.first_cells.f T.first_cells.d ["seed"] Z5u:=by
 refine T.first_cells.F.ok Uj (fun vs H Q E h=>?_) (fun cdv A outer s H vs Q E hr h=>?_)
 ·obtain ⟨n,rfl,_⟩:=h
  rfl
 ·obtain ⟨n,rfl,k⟩:=h
  obtain ⟨t_CELLS,Z0h⟩:=T.Z0h
  obtain ⟨t_MODULUS,U3⟩:=T.U3
  refine ⟨_,(Z5 (Zc (pe_lc (own:=[("place",1)]) rfl Uj.nd (J8 rfl T.b_range (Z0 (Zd (v:=.int 6) rfl Z0h ⟨t_CELLS,rfl⟩) Z3)) (Xw rfl) (fun _ _ _ _ _=>(Y4 (i:=1) Uj.nd rfl (Or.inl rfl))) (fun _ _ _ _ _=>Z1j) (fun _ _ _ _ _=>(pe_op Z6y (pe_op Yx (pv 0) (pv 1)) (Zd (v:=.int 1000003) rfl U3 ⟨t_MODULUS,rfl⟩)))))),?_⟩
  refine ⟨6,rfl,by decide,by decide,fun D hD=>?_⟩
  refine Z8k (lo:=0) (n:=6) (fun i H'=>Same H H'∧LI H' D ((Vbwsaf.first n).take i)) ⟨Same.new hD,Z2⟩ ?_ ?_
  ·rintro i H3 hi ⟨s3,hD3⟩
   refine ⟨rfl,?_⟩
   simp only[tYes,if_true]
   refine ⟨_,rfl,_,rfl,_,_,rfl,rfl,_,_,rfl,rfl,(show (0:Int)<1000003 by decide),_,hD3,?_,?_⟩
   ·rw[List.length_map,List.length_take]
    exact Nat.lt_of_le_of_lt (Nat.min_le_left _ _) (by rw[sizeLine_eq];omega)
   ·refine ⟨fun b o e=>?_,?_⟩
    ·rw[Z8 (Z6 e hD)];exact s3 b o e
    ·show upd H3 D _ D=_
     rw[Z2]
     have e:(Vbwsaf.first n)[i]?=some ((n+(0+(i:Int)))%1000003):=by
      unfold Vbwsaf.first
      rw[List.getElem?_map,List.getElem?_range hi,Option.map_some,Int.zero_add]
      rfl
     rw[List.take_add_one,e,List.map_append]
     rfl
  ·rintro H3 ⟨s3,hD3⟩
   refine k H3 D s3 hD ?_
   have e:(Vbwsaf.first n).length≤6:=by rw[(Z3y n).len];exact Nat.le_refl _
   rw[List.take_of_length_le e] at hD3
   exact hD3
end
end Pr
end
section
namespace Pr
open PySem PySem.Spec PyProof.Rows L2
open Vbwsaf (Input Deed Stay Window Cells)
noncomputable def lastV:Option Nat→V
 | none=>.non
 | some n=>.int (n:Int)
noncomputable def stF (s:Stay):List (Str×V):=[("player",.int (s.player:Int)),("number",.int (s.stay:Int)),("behind",.int (s.after:Int)),("last",lastV s.last)]
def StAt (C:Addr) (H:Hp) (a:Addr) (s:Stay):Prop:=∃ dx,H a=some (.ins C dx (stF s))
theorem StAt.same {C:Addr} {H H':Hp} {a:Addr} {s:Stay} (h:StAt C H a s) (q:Same H H'):StAt C H' a s:=let ⟨dx,h⟩:=h;⟨dx,q _ _ h⟩
structure StaysAt (C:Addr) (H:Hp) (l:Addr) (as:List Addr) (ss:List Stay):Prop where
 lst:H l=some (.lst (as.map V.ref))
 nd:as.Nodup
 at_:Paired (StAt C H) as ss
theorem StaysAt.same {C:Addr} {H H':Hp} {l:Addr} {as:List Addr} {ss:List Stay} (h:StaysAt C H l as ss) (q:Same H H'):StaysAt C H' l as ss:=⟨q _ _ h.lst,h.nd,Paired.mapP h.at_ fun _ _ r=>r.same q⟩
section
variable {P:Program} {w:World} {K:PySem.W.Frag} {mg:Str→Option Value} {base:Heap}
noncomputable def Za7 (T:TX K mg):Sp:=fun vs H Q _=>∃ (a:Addr) (s:Stay) (t:Nat),vs=[.ref a,.int (t:Int)]∧StAt T.cStay H a s∧Q (.bl (Vbwsaf.there s t)) H
theorem Zap (T:TX K mg):FnOk P w K mg base CX0 1 T.takes_in.f T.takes_in.d ["stay", "tick"] (Za7 T):=by
 refine T.takes_in.F.ok Zah (fun vs H Q E h=>?_) (fun cdv A outer s H vs Q E hr h=>?_)
 ·obtain ⟨a,s0,t,rfl,_⟩:=h
  rfl
 ·obtain ⟨a,s0,t,rfl,⟨dx,ha⟩,k⟩:=h
  refine ⟨_,(Z5 (Zc (Zf2 (Z4t op_lt (Za (pv 0) rfl) (pv 1) (Y8 _)) (Zbq (pe_or (pe_cmp (Z6u (Za (pv 0) rfl))) (Zbq (Z4t op_le (pv 1) (Za (pv 0) rfl) (Y8 _)))))))),?_⟩
  refine ⟨_,rfl,a,_,dx,_,_,rfl,ha,T.X1,T.Z0l,rfl,_,rfl,_,_,rfl,rfl,_,rfl,?_⟩
  have key:Vbwsaf.there s0 t=(decide ((s0.after:Int)<(t:Int))&&(match s0.last with | none=>true | some n=>decide ((t:Int)≤(n:Int)))):=by
   unfold Vbwsaf.there
   congr 1
   ·simp
   ·cases s0.last <;> simp
  refine ite2 (fun z=>?_) (fun z=>?_)
  ·refine ⟨_,rfl,a,_,dx,_,_,rfl,ha,T.X1,T.J5,rfl,_,rfl,?_⟩
   cases e:s0.last with
   | none=>
    rw[z,e] at key
    refine iteT ?_
    rw[key] at k
    exact k
   | some n=>
    rw[z,e] at key
    refine iteF ?_
    refine ⟨_,rfl,_,rfl,a,_,dx,_,_,rfl,ha,T.X1,T.J5,(show _=some (lastV s0.last) from rfl),?_⟩
    rw[e]
    refine ⟨_,_,rfl,rfl,?_⟩
    rw[key] at k
    exact k
  ·have z:decide ((s0.after:Int)<(t:Int))=false:=by simpa using z
   rw[z] at key
   rw[key] at k
   exact k
def Zab (T:TX K mg):Sp:=fun vs H Q _=>∃ (l:Addr) (as:List Addr) (ss:List Stay) (p t:Nat),vs=[.ref l,.int (p:Int),.int (t:Int)]∧StaysAt T.cStay H l as ss∧ss.length≤1000∧∀ H',Same H H'→Q (.bl (Li.isThere ss p t)) H'
theorem Z4v (T:TX K mg):FnOk P w K mg base CX0 2 T.is_there.f T.is_there.d ["stays", "player", "tick"] (Zab T):=by
 refine T.is_there.F.ok Z1g (fun vs H Q E h=>?_) (fun cdv A outer s H vs Q E hr h=>?_)
 ·obtain ⟨l,as,ss,p,t,rfl,_⟩:=h
  rfl
 ·obtain ⟨l,as,ss,p,t,rfl,hS,hlen,k⟩:=h
  refine ⟨_,(Z5 (Zc (Zu (cr_any rfl) rfl T.b_any bt_any (Z0 (pe_lc (own:=[("stay",3)]) rfl Z1g.nd (Ul (pv 0)) (Xw rfl) (fun _ _ _ _ _=>(Y4 (i:=3) Z1g.nd rfl (Or.inl rfl))) (fun _ _ _ _ _=>Z1j) (fun _ _ _ _ _=>(Zf2 (Z4t op_eq (Zf0 (K:=K) (pv 3) rfl) (pv 1) (Y8 _)) (Zbq (Zf (Zap T) (hr.mono (by decide)) rfl T.takes_in.m T.takes_in.F.kp T.takes_in.b .nil pass0 (Z0 (pv 3) (Z0 (pv 2) Z3))))))) Z3)))),?_⟩
  have hl2:as.length=ss.length:=Paired.length hS.at_
  refine ⟨_,rfl,l,rfl,⟨_,SqL.of hS.lst⟩,fun D hD=>?_⟩
  refine Z59 (K:=K) (a:=l) (xs:=as.map V.ref) (fun i H'=>Same H H'∧H' D=some (.lst (((ss.take i).map fun s=>s.player==p&&Vbwsaf.there s t).map V.bl))) ⟨Same.new hD,Z2⟩ (fun i H' _ q=>SqL.of (q.1 _ _ hS.lst)) ?_ ?_
  ·rintro i x H' hi ⟨s1,h1⟩
   obtain ⟨a,ha,rfl⟩:=Xc hi
   obtain ⟨st,hst,dx,hat⟩:=Y5 hS.at_ ha
   have hat':=s1 _ _ hat
   refine ⟨rfl,?_⟩
   simp only[tYes,if_true]
   refine ⟨_,rfl,a,_,dx,_,_,rfl,hat',T.X1,T.Jc,rfl,_,rfl,rfl,_,rfl,?_⟩
   have fin:∀ b:Bool,b=(st.player==p&&Vbwsaf.there st t)→∃ acc,H' D=some (.lst acc)∧acc.length<sizeLine∧Same H (upd H' D (.lst (acc++[V.bl b])))∧upd H' D (.lst (acc++[V.bl b])) D=some (.lst (((ss.take (i+1)).map fun s=>s.player==p&&Vbwsaf.there s t).map V.bl)):=by
    rintro b rfl
    refine ⟨_,h1,?_,fun b o e=>?_,?_⟩
    ·rw[List.length_map,List.length_map,List.length_take,sizeLine_eq];omega
    ·rw[Z8 (Z6 e hD)];exact s1 b o e
    ·rw[Z2,List.take_add_one,hst,List.map_append,List.map_append];rfl
   refine ite2 (fun z=>?_) (fun z=>?_)
   ·have z:(st.player:Int)=(p:Int):=by
     have:=of_decide_eq_true z
     injection this
    have z:(st.player==p)=true:=by simp;omega
    refine ⟨_,rfl,_,rfl,a,st,t,rfl,⟨dx,hat'⟩,fin _ (by rw[z,Bool.true_and])⟩
   ·have z:(st.player==p)=false:=by
     rw[beq_eq_false_iff_ne]
     intro e
     exact z (decide_eq_true (by rw[e]))
    exact fin _ (by rw[z,Bool.false_and])
  ·rintro H' ⟨s1,h1⟩
   rw[List.length_map,hl2,List.take_length] at h1
   refine ⟨D,_,rfl,SqL.of h1,?_⟩
   have e:(ss.map fun s=>s.player==p&&Vbwsaf.there s t).any id=Li.isThere ss p t:=by
    unfold Li.isThere
    rw[List.any_map]
    rfl
   rw[e]
   exact k H' s1
noncomputable def Z42 (T:TX K mg):Sp:=fun vs H Q _=>∃ (l:Addr) (as:List Addr) (ss:List Stay) (p:Nat),vs=[.ref l,.int (p:Int)]∧StaysAt T.cStay H l as ss ∧
 (∀ (i:Nat) (a:Addr) (s:Stay),as[i]?=some a→ss[i]?=some s→(ss.find? fun s=>s.player==p&&s.last.isNone)=some s→(∀ (j:Nat) (s':Stay),j<i→ss[j]?=some s'→(s'.player==p&&s'.last.isNone)=false)→s.player=p→s.last=none→Q (.ref a) H) ∧
 ((ss.find? fun s=>s.player==p&&s.last.isNone)=none→Q .non H)
theorem Zb4 {α:Type} {f:α→Bool}:∀ {l:List α} {i:Nat} {x:α},l[i]?=some x→f x=true→(∀ (j:Nat) (y:α),j<i→l[j]?=some y→f y=false)→l.find? f=some x
 | [],i,x,h,_,_=>by simp at h
 | a::l,0,x,h,hf,_=>by
  have e:a=x:=Option.some.inj h
  subst e
  rw[List.find?_cons,hf]
 | a::l,i+1,x,h,hf,hn=>by
  rw[List.find?_cons,hn 0 a (Nat.succ_pos _) rfl]
  exact Zb4 (i:=i) (by simpa using h) hf fun j y hj e=>hn (j+1) y (by omega) (by simpa using e)
theorem Xr (T:TX K mg):FnOk P w K mg base CX0 1 T.present_stay.f T.present_stay.d ["stays", "player"] (Z42 T):=by
 refine T.present_stay.F.ok Ww (fun vs H Q E h=>?_) (fun cdv A outer s H vs Q E hr h=>?_)
 ·obtain ⟨l,as,ss,p,rfl,_⟩:=h
  rfl
 ·obtain ⟨l,as,ss,p,rfl,hS,k1,k2⟩:=h
  refine ⟨_,(Z4 (Jy PassesOwn.never rfl (Ul (pv 0)) (Y4 (i:=2) Ww.nd rfl (Or.inl rfl)) (Z5 (ps_if (PW.pt (Zer (Zr op_eq (Za (pv 2) rfl) (pv 1) (Y8 _)) (Zak (Uu (Z6u (Za (pv 2) rfl)))))) (Z5 (Zc (pv 2))) Zp)))
   (Z5 (Zc Z6t))),?_⟩
  have hl2:as.length=ss.length:=Paired.length hS.at_
  refine ⟨_,rfl,l,rfl,⟨_,SqL.of hS.lst⟩,Z2b (K:=K) (a:=l) (xs:=as.map V.ref) (fun i σ H'=>∃ v:Option V,σ=[some (.ref l),some (.int (p:Int)),v]∧H'=H∧∀ (j:Nat) (s':Stay),j<i→ss[j]?=some s'→(s'.player==p&&s'.last.isNone)=false)
   ⟨none,rfl,rfl,fun j _ hj=>absurd hj (Nat.not_lt_zero _)⟩ (fun i σ H' _ ⟨_,_,e,_⟩=>by rw[e];exact SqL.of hS.lst) ?_ ?_⟩
  ·rintro i y σ H' hi ⟨v,rfl,rfl,hn⟩
   obtain ⟨a,ha,rfl⟩:=Xc hi
   obtain ⟨st,hst,dx,hat⟩:=Y5 hS.at_ ha
   have next:(st.player==p&&st.last.isNone)=false→∀ (j:Nat) (s':Stay),j<i+1→ss[j]?=some s'→(s'.player==p&&s'.last.isNone)=false:=by
    intro hf j s' hj e
    by_cases hji:j<i
    ·exact hn j s' hji e
    ·have:j=i:=by omega
     subst this
     rw[hst] at e
     cases e
     exact hf
   refine ⟨_,rfl,a,_,dx,_,_,rfl,hat,T.X1,T.Jc,rfl,_,rfl,rfl,_,rfl,?_⟩
   refine ite2 (fun z=>?_) (fun z=>?_)
   ·have z:(st.player:Int)=(p:Int):=by
     have:=of_decide_eq_true z
     injection this
    have z:st.player=p:=by omega
    refine ⟨_,rfl,a,_,dx,_,_,rfl,hat,T.X1,T.J5,(show _=some (lastV st.last) from rfl),_,rfl,?_⟩
    cases e:st.last with
    | none=>
     refine iteT ?_
     have ft:(st.player==p&&st.last.isNone)=true:=by simp[z,e]
     exact ⟨_,rfl,k1 i a st ha hst (Zb4 hst ft hn) hn z e⟩
    | some n=>
     refine iteF ?_
     exact ⟨_,rfl,rfl,next (by simp[e])⟩
   ·have z:(st.player==p)=false:=by
     rw[beq_eq_false_iff_ne]
     intro e
     exact z (decide_eq_true (by rw[e]))
    exact iteF ⟨_,rfl,rfl,next (by rw[z,Bool.false_and])⟩
  ·rintro σ H' ⟨v,rfl,rfl,hn⟩
   refine k2 ?_
   rw[List.find?_eq_none]
   intro s' hs'
   obtain ⟨j,hj⟩:=List.mem_iff_getElem?.mp hs'
   have hlt:j<ss.length:=(List.getElem?_eq_some_iff.mp hj).1
   rw[hn j s' (by rw[List.length_map];omega) hj]
   exact Bool.false_ne_true
noncomputable def Z5s (T:TX K mg):Sp:=fun vs H Q _=>∃ (l:Addr) (as:List Addr) (ss:List Stay) (p:Nat),vs=[.ref l,.int (p:Int)]∧StaysAt T.cStay H l as ss∧ss.length≤1000∧∀ H',Same H H'→Q (.int (((ss.filter fun s=>s.player==p).length+1:Nat):Int)) H'
theorem J4 {α:Type} (f:α→Bool) {l:List α} {i:Nat} {x:α} (h:l[i]?=some x):(l.take (i+1)).filter f=(l.take i).filter f++(if f x=true then [x] else []):=by
 rw[List.take_add_one,h,List.filter_append]
 show _++[x].filter f=_
 rw[List.filter_cons]
 rfl
theorem Z62 (T:TX K mg):FnOk P w K mg base CX0 1 T.next_number.f T.next_number.d ["stays", "player"] (Z5s T):=by
 refine T.next_number.F.ok Ui (fun vs H Q E h=>?_) (fun cdv A outer s H vs Q E hr h=>?_)
 ·obtain ⟨l,as,ss,p,rfl,_⟩:=h
  rfl
 ·obtain ⟨l,as,ss,p,rfl,hS,hlen,k⟩:=h
  refine ⟨_,(Z5 (Zc (pe_op Yx Z9 (Zu Y2 rfl T.b_len Jo (Z0 (pe_lc (own:=[("stay",2)]) rfl Ui.nd (Ul (pv 0)) (Xw rfl) (fun _ _ _ _ _=>(Y4 (i:=2) Ui.nd rfl (Or.inl rfl))) (fun _ _ _ _ _=>(Z83 (Zr op_eq (Zf0 (K:=K) (pv 2) rfl) (pv 1) (Y8 _)))) (fun _ _ _ _ _=>(pv 2))) Z3))))),?_⟩
  have hl2:as.length=ss.length:=Paired.length hS.at_
  refine ⟨_,rfl,l,rfl,⟨_,SqL.of hS.lst⟩,fun D hD=>?_⟩
  refine Z59 (K:=K) (a:=l) (xs:=as.map V.ref) (fun i H'=>Same H H'∧∃ acc,H' D=some (.lst acc)∧acc.length=((ss.take i).filter fun s=>s.player==p).length) ⟨Same.new hD,_,Z2,rfl⟩ (fun i H' _ q=>SqL.of (q.1 _ _ hS.lst)) ?_ ?_
  ·rintro i x H' hi ⟨s1,acc,h1,h2⟩
   obtain ⟨a,ha,rfl⟩:=Xc hi
   obtain ⟨st,hst,dx,hat⟩:=Y5 hS.at_ ha
   have hat':=s1 _ _ hat
   refine ⟨rfl,_,rfl,a,_,dx,_,_,rfl,hat',T.X1,T.Jc,rfl,_,rfl,rfl,_,rfl,?_⟩
   refine ite2 (fun z=>?_) (fun z=>?_)
   ·have z:(st.player:Int)=(p:Int):=by
     have:=of_decide_eq_true z
     injection this
    have z:(st.player==p)=true:=by simp;omega
    refine ⟨_,rfl,_,h1,?_,fun b o e=>?_,_,Z2,?_⟩
    ·have:=List.length_filter_le (fun s:Stay=>s.player==p) (ss.take i)
     rw[List.length_take] at this
     rw[h2,sizeLine_eq];omega
    ·rw[Z8 (Z6 e hD)];exact s1 b o e
    ·rw[J4 _ hst,if_pos z,List.length_append,List.length_append,h2];rfl
   ·have z:¬ (st.player==p)=true:=fun e=>z (decide_eq_true (by rw[eq_of_beq e]))
    refine ⟨s1,acc,h1,?_⟩
    rw[J4 _ hst,if_neg z,List.append_nil]
    exact h2
  ·rintro H' ⟨s1,acc,h1,h2⟩
   rw[List.length_map,hl2,List.take_length] at h2
   refine ⟨D,_,rfl,.inl (SqL.of h1),_,_,rfl,rfl,?_⟩
   show Q (.int (1+(acc.length:Int))) H'
   rw[h2,show (1:Int)+((ss.filter fun s=>s.player==p).length:Int)=(((ss.filter fun s=>s.player==p).length+1:Nat):Int) by omega]
   exact k H' s1
noncomputable def stRow (s:Stay):List Int:=[(s.player:Int),(s.stay:Int),(s.after:Int),match s.last with | some n=>(n:Int) | none=>-1]
def Zeh (T:TX K mg):Sp:=fun vs H Q _=>∃ (a:Addr) (s:Stay),vs=[.ref a]∧StAt T.cStay H a s∧∀ p,H p=none→Q (.ref p) (upd H p (.lst ((stRow s).map V.int)))
theorem Zf3 (T:TX K mg):FnOk P w K mg base CX0 1 T.row_of.f T.row_of.d ["stay"] (Zeh T):=by
 refine T.row_of.F.ok Zej (fun vs H Q E h=>?_) (fun cdv A outer s H vs Q E hr h=>?_)
 ·obtain ⟨a,s0,rfl,_⟩:=h
  rfl
 ·obtain ⟨a,s0,rfl,⟨dx,ha⟩,k⟩:=h
  obtain ⟨t_STILL_THERE,Wi⟩:=T.Wi
  refine ⟨_,(Z5 (Zc (Zv (Z0 (Za (pv 0) rfl) (Z0 (Za (pv 0) rfl) (Z0 (Za (pv 0) rfl) (Z0 (Z27 (Uu (Z6u (Za (pv 0) rfl))) (Zd (v:=.int (-1)) rfl Wi ⟨t_STILL_THERE,rfl⟩) (Za (pv 0) rfl)) Z3))))))),?_⟩
  refine ⟨_,rfl,a,_,dx,_,_,rfl,ha,T.X1,T.Jc,rfl,_,rfl,a,_,dx,_,_,rfl,ha,T.X1,T.Uf,rfl,_,rfl,a,_,dx,_,_,rfl,ha,T.X1,T.Z0l,rfl,_,rfl,a,_,dx,_,_,rfl,ha,T.X1,T.J5,(show _=some (lastV s0.last) from rfl),_,rfl,?_⟩
  cases e:s0.last with
  | none=>
   refine iteT ?_
   refine ⟨by show 4≤sizeLine;decide,fun p hp=>?_⟩
   have:=k p hp
   unfold stRow at this
   rw[e] at this
   exact this
  | some n=>
   refine iteF ?_
   refine ⟨_,rfl,a,_,dx,_,_,rfl,ha,T.X1,T.J5,(show _=some (lastV s0.last) from rfl),by show 4≤sizeLine;decide,fun p hp=>?_⟩
   have:=k p hp
   unfold stRow at this
   rw[e] at this
   rw[e]
   exact this
noncomputable def Z8z (T:TX K mg):Sp:=fun vs H Q _=>∃ (x dx:Addr) (p n b:Nat),vs=[.ref x,.int (p:Int),.int (n:Int),.int (b:Int)]∧H x=some (.ins T.cStay dx [])∧∀ H':Hp,StAt T.cStay H' x ⟨p,n,b,none⟩→Only x H H'→Q .non H'
theorem Z9i (T:TX K mg):FnOk P w K mg base CX0 1 T.Stay_init.f T.Stay_init.d ["self", "player", "number", "behind"] (Z8z T):=by
 refine T.Stay_init.F.ok Z95 (fun vs H Q E h=>?_) (fun cdv A outer s H vs Q E hr h=>?_)
 ·obtain ⟨x,dx,p,n,b,rfl,_⟩:=h
  rfl
 ·obtain ⟨x,dx,p,n,b,rfl,hx,k⟩:=h
  refine ⟨_,(Z4 (Yu (pv 0) (pv 1) rfl)
   (Z4 (Yu (pv 0) (pv 2) rfl)
   (Z4 (Yu (pv 0) (pv 3) rfl)
   (Z5 (Yu (pv 0) Z6t rfl))))),?_⟩
  refine ⟨_,rfl,_,rfl,x,_,dx,_,rfl,hx,T.X1,T.Jc,by decide,?_⟩
  refine ⟨_,rfl,_,rfl,x,_,dx,_,rfl,Z2,T.X1,T.Uf,(by show 1<1000;decide),?_⟩
  refine ⟨_,rfl,_,rfl,x,_,dx,_,rfl,Z2,T.X1,T.Z0l,(by show 2<1000;decide),?_⟩
  refine ⟨_,rfl,x,_,dx,_,rfl,Z2,T.X1,T.J5,(by show 3<1000;decide),?_⟩
  refine k _ ⟨dx,?_⟩ fun b hb=>?_
  ·rw[Z2];rfl
  ·rw[Z8 hb,Z8 hb,Z8 hb,Z8 hb]
end
end Pr
end
section
namespace Pr
open PySem PySem.Spec PyProof.Rows L2
open Vbwsaf (Input Deed Stay Window Cells)
theorem Lof.inS {H H':Hp} {l:Addr} {xs:List Input} (h:Lof InAt H l xs) (s:Same H H'):Lof InAt H' l xs:=let ⟨as,h1,h2⟩:=h;⟨as,s _ _ h1,Paired.mapP h2 fun _ _ r=>InAt.same r s⟩
theorem Lof.deS {H H':Hp} {l:Addr} {xs:List Deed} (h:Lof DeAt H l xs) (s:Same H H'):Lof DeAt H' l xs:=let ⟨as,h1,h2⟩:=h;⟨as,s _ _ h1,Paired.mapP h2 fun _ _ r=>DeAt.same r s⟩
abbrev tpK (t p:Nat):List Key:=[Sum.inl (t:Int),Sum.inl (p:Int)]
structure CtAt (H:Hp) (d:Addr) (c:Nat→Nat→List Input):Prop where
 ex:∃ kvs,H d=some (.dT kvs)∧∀ t p:Nat,(valV kvs (tpK t p)=none→c t p=[])∧∀ v,valV kvs (tpK t p)=some v→∃ l,v=.ref l∧Lof InAt H l (c t p)
 bd:∀ t p,(c t p).length≤1000
theorem CtAt.same {H H':Hp} {d:Addr} {c:Nat→Nat→List Input} (h:CtAt H d c) (s:Same H H'):CtAt H' d c:=by
 obtain ⟨kvs,h1,h2⟩:=h.ex
 refine ⟨⟨kvs,s _ _ h1,fun t p=>⟨(h2 t p).1,fun v e=>?_⟩⟩,h.bd⟩
 obtain ⟨l,e1,e2⟩:=(h2 t p).2 v e
 exact ⟨l,e1,e2.inS s⟩
noncomputable def lat (c:Nat→Nat→List Input) (p:Nat):Nat→Nat→Option Input
 | 0,_=>none
 | n+1,t=>if t≤1 then none else match (c (t-1) p).getLast? with
  | some x=>some x
  | none=>lat c p n (t-1)
def latD (c:Nat→Nat→List Input) (p n t:Nat):List Deed:=match lat c p n t with
 | some x=>[⟨x,true⟩]
 | none=>[]
def dC (c:Nat→Nat→List Input) (ss:List Stay) (h t p:Nat):List Deed:=if c t p=[] then (if Li.isThere ss p t=true then latD c p h t else []) else (c t p).map fun x=>⟨x,false⟩
theorem Zhn (m:Nat) (fs:List Input) (p:Nat):∀ n t,lat (Li.cnt m fs) p n t=Vbwsaf.lately m fs p n t
 | 0,t=>by rw[Li.Z73 _ _ _ _ _ (.inl rfl)];rfl
 | n+1,t=>by
  by_cases h:t≤1
  ·rw[Li.Z73 _ _ _ _ _ (.inr h)]
   show (if t≤1 then none else _)=none
   rw[if_pos h]
  ·rw[Li.Zb2 _ _ _ _ _ (by omega)]
   show (if t≤1 then none else _)=_
   rw[if_neg h]
   cases (Li.cnt m fs (t-1) p).getLast? with
   | some x=>rfl
   | none=>exact Zhn m fs p n (t-1)
section
variable {P:Program} {w:World} {K:PySem.W.Frag} {mg:Str→Option Value} {base:Heap}
def Zcw:Sp:=fun vs H Q _=>∃ (a:Addr) (x:Input),vs=[.ref a]∧InAt H a x∧∀ p,H p=none→Q (.ref p) (upd H p (.tup [.int (x.player:Int),.int (x.stay:Int),.int (x.number:Int)]))
theorem Z0t (T:TX K mg):FnOk P w K mg base CX0 1 T.name_of.f T.name_of.d ["one"] Zcw:=by
 refine T.name_of.F.ok Zd1 (fun vs H Q E h=>?_) (fun cdv A outer s H vs Q E hr h=>?_)
 ·obtain ⟨a,x,rfl,_⟩:=h
  rfl
 ·obtain ⟨a,x,rfl,⟨d,h1,h2⟩,k⟩:=h
  obtain ⟨t_TICK,Jn⟩:=T.Jn
  refine ⟨_,(Z5 (Zc (Z0s Zhj (pv 0) Z85 (Z05 (Zd (v:=.int 3) rfl Jn ⟨t_TICK,rfl⟩))))),?_⟩
  refine ⟨_,rfl,3,rfl,a,_,rfl,SqT.of h1,(by show ¬ (0=0∧min 3 5=5);decide),fun p hp=>?_⟩
  exact k p hp
noncomputable def Z5v:Sp:=fun vs H Q _=>∃ (d:Addr) (c:Nat→Nat→List Input) (t p:Nat),vs=[.ref d,.int (t:Int),.int (p:Int)]∧CtAt H d c∧∀ H' l,Same H H'→Lof InAt H' l (c t p)→Q (.ref l) H'
theorem Xh (T:TX K mg):FnOk P w K mg base CX0 1 T.counting_of.f T.counting_of.d ["counts", "tick", "player"] Z5v:=by
 refine T.counting_of.F.ok Z5y (fun vs H Q E h=>?_) (fun cdv A outer s H vs Q E hr h=>?_)
 ·obtain ⟨d,c,t,p,rfl,_⟩:=h
  rfl
 ·obtain ⟨d,c,t,p,rfl,hC,k⟩:=h
  have hu:=hu_of hr
  refine ⟨_,(Z5 (Zc (Zgv hu (pv 0) (Z4s (Z0 (pv 1) (Z0 (pv 2) Z3))) (Zv Z3) ⟨rfl,rfl,rfl,rfl⟩))),?_⟩
  obtain ⟨kvs,h1,h2⟩:=hC.ex
  refine ⟨_,rfl,d,rfl,.inr ⟨kvs,.inl h1⟩,_,rfl,_,rfl,(by show 2≤sizeLine;decide),fun b hb=>?_⟩
  refine ⟨Nat.zero_le _,fun q hq=>?_⟩
  have s1:Same H (upd H b (.tup [.int (t:Int),.int (p:Int)])):=Same.new hb
  have s2:=s1.laid (o:=.lst []) hq
  have eb:upd (upd H b (.tup [.int (t:Int),.int (p:Int)])) q (.lst []) b=some (.tup ((tpK t p).map kV)):=by
   rw[Z8 (Z6 Z2 hq),Z2];rfl
  refine ⟨_,DGet.t (s2 _ _ h1) eb,?_⟩
  cases e:valV kvs (tpK t p) with
  | none=>
   have e0:=(h2 t p).1 e
   refine k _ q s2 ?_
   rw[e0]
   exact ⟨[],Z2,.nil⟩
  | some v=>
   obtain ⟨l,rfl,hl⟩:=(h2 t p).2 v e
   exact k _ l s2 (hl.inS s2)
theorem Lof.ext {α:Type} {R:Hp→Addr→α→Prop} {H:Hp} {as bs:List Addr} {xs ys:List α} (h1:Paired (R H) as xs) (h2:Paired (R H) bs ys):Paired (R H) (as++bs) (xs++ys):=by
 induction h1 with
 | nil=>exact h2
 | cons r t ih=>exact .cons r ih
theorem Z0i {α:Type} (f:Nat→List α) (i:Nat):(List.range (i+1)).flatMap f=(List.range i).flatMap f++f i:=by
 rw[List.range_succ,List.flatMap_append]
 simp
theorem Z2c {α:Type} (f:Nat→List α) (b:Nat) (h:∀ i,(f i).length≤b):∀ n,((List.range n).flatMap f).length≤n*b
 | 0=>by simp
 | n+1=>by
  rw[Z0i,List.length_append,Nat.succ_mul]
  exact Nat.add_le_add (Z2c f b h n) (h n)
noncomputable def Z44:Sp:=fun vs H Q _=>∃ (d:Addr) (c:Nat→Nat→List Input) (t:Nat),vs=[.ref d,.int (t:Int)]∧CtAt H d c∧∀ H' l,Same H H'→Lof InAt H' l ((List.range 4).flatMap (c t))→Q (.ref l) H'
theorem Z4w (T:TX K mg):FnOk P w K mg base CX0 2 T.counting_for.f T.counting_for.d ["counts", "tick"] Z44:=by
 refine T.counting_for.F.ok Ju (fun vs H Q E h=>?_) (fun cdv A outer s H vs Q E hr h=>?_)
 ·obtain ⟨d,c,t,rfl,_⟩:=h
  rfl
 ·obtain ⟨d,c,t,rfl,hC,k⟩:=h
  obtain ⟨t_PLAYERS,Xs⟩:=T.Xs
  refine ⟨_,(Z4 (Zy (i:=2) Ju.nd rfl (Or.inl rfl) (Zv Z3))
   (Z4 (Jy PassesOwn.never rfl (J8 rfl T.b_range (Z0 (Zd (v:=.int 4) rfl Xs ⟨t_PLAYERS,rfl⟩) Z3)) (Y4 (i:=3) Ju.nd rfl (Or.inl rfl)) (Z5 (Zx (pe_bm PySem.F.plainAttrs_list PySem.F.slot_list_extend PySem.F.type_list_extend Ux (pv 2) (Z0 (Zf (Xh T) (hr.mono (by decide)) rfl T.counting_of.m T.counting_of.F.kp T.counting_of.b .nil pass0 (Z0 (pv 0) (Z0 (pv 1) (Z0 (pv 3) Z3)))) Z3)))))
   (Z5 (Zc (pv 2))))),?_⟩
  refine ⟨Nat.zero_le _,fun D hD=>?_⟩
  refine ⟨4,rfl,by decide,by decide,Jb (lo:=0) (n:=4) (fun i σ H'=>∃ v:Option V,σ=[some (.ref d),some (.int (t:Int)),some (.ref D),v]∧Same H H'∧Lof InAt H' D ((List.range i).flatMap (c t)))
   ⟨none,rfl,Same.new hD,[],Z2,.nil⟩ ?_ ?_⟩
  ·rintro i σ H' hi ⟨v,rfl,s1,as,h1,h2⟩
   refine ⟨_,rfl,.inl ⟨rfl,_,SqL.of h1⟩,_,rfl,_,rfl,_,rfl,d,c,t,i,(by rw[Int.zero_add];rfl),hC.same s1,fun H2 l s2 ⟨bs,hb,hp⟩=>?_⟩
   have la:as.length=((List.range i).flatMap (c t)).length:=Paired.length h2
   have lb:bs.length=(c t i).length:=Paired.length hp
   have l1:=Z2c (c t) 1000 (fun p=>hC.bd t p) i
   have l2:=hC.bd t i
   have hD2:=s2 _ _ h1
   refine ⟨D,l,_,_,rfl,rfl,hD2,hb,?_,?_⟩
   ·rw[List.length_map,List.length_map,sizeLine_eq];omega
   ·refine ⟨_,rfl,fun b o e=>?_,as++bs,?_,?_⟩
    ·rw[Z8 (Z6 e hD)];exact s2 _ _ (s1 _ _ e)
    ·rw[Z2,List.map_append]
    ·rw[Z0i]
     refine Lof.ext ?_ ?_
     ·exact Paired.mapP h2 fun _ _ r=>(r.same s2).mono fun b xs e=>by rw[Z8 (ne_of e hD2 (fun z=>nomatch z))];exact e
     ·exact Paired.mapP hp fun _ _ r=>r.mono fun b xs e=>by rw[Z8 (ne_of e hD2 (fun z=>nomatch z))];exact e
  ·rintro σ H' ⟨v,rfl,s1,hl⟩
   exact ⟨_,rfl,k H' D s1 hl⟩
theorem DeAt.mono {H H':Hp} {a:Addr} {d:Deed} (h:DeAt H a d) (ht:∀ b xs,H b=some (.tup xs)→H' b=some (.tup xs)):DeAt H' a d:=let ⟨b,h1,h2⟩:=h;⟨b,ht _ _ h1,NAt.mono h2 ht⟩
theorem latN (c:Nat→Nat→List Input) (p:Nat):∀ (i h t:Nat),i≤h→i<t→(∀ j,j<i→c (t-1-j) p=[])→lat c p h t=lat c p (h-i) (t-i)
 | 0,h,t,_,_,_=>rfl
 | i+1,h,t,hi,ht,hn=>by
  obtain ⟨h',rfl⟩:∃ h',h=h'+1:=⟨h-1,by omega⟩
  have e0:c (t-1) p=[]:=hn 0 (by omega)
  have e1:lat c p (h'+1) t=lat c p h' (t-1):=by
   show (if t≤1 then none else _)=_
   rw[if_neg (by omega),e0]
   rfl
  rw[e1,latN c p i h' (t-1) (by omega) (by omega) fun j hj=>by have:=hn (j+1) (by omega);rw[show t-1-1-j=t-1-(j+1) by omega];exact this]
  congr 1 <;> omega
theorem rgDown {i j:Int} {n:Nat} (hi:0≤i) (hi2:i≤100000) (hj:0≤j) (hn:(n:Int)=i-j):RgC i j (-1) n:=by
 have hsz:Builtin.Range.rangeSize i j (-1)=(n:Int):=by
  unfold Builtin.Range.rangeSize
  rw[if_neg (by decide)]
  by_cases h:i>j
  ·rw[if_pos h]
   show (i-j-1) / 1+1=(n:Int)
   rw[Int.ediv_one]
   omega
  ·rw[if_neg h]
   omega
 refine ⟨by decide,by decide,?_,hsz⟩
 have fits:∀ z:Int,-10≤z→z≤200000→Builtin.Range.rangeFitsLong z=true:=by
  intro z h1 h2
  unfold Builtin.Range.rangeFitsLong
  simp only[Bool.and_eq_true,decide_eq_true_eq]
  omega
 unfold Builtin.Range.small
 rw[hsz,fits i (by omega) (by omega),fits j (by omega) (by omega),fits (-1) (by omega) (by omega),fits (n:Int) (by omega) (by omega)]
 rw[if_neg (by decide),fits (j+(-1+1)) (by omega) (by omega)]
 simp
def Z8y:Sp:=fun vs H Q _=>∃ (d:Addr) (c:Nat→Nat→List Input) (h t p:Nat),vs=[.ref d,.int (h:Int),.int (t:Int),.int (p:Int)]∧CtAt H d c∧1≤t∧t≤10000∧h≤1000∧∀ H' l,Same H H'→Lof DeAt H' l (latD c p h t)→Q (.ref l) H'
theorem Z9h (T:TX K mg):FnOk P w K mg base CX0 2 T.guess_for.f T.guess_for.d ["counts", "held", "tick", "player"] Z8y:=by
 refine T.guess_for.F.ok Wx (fun vs H Q E h=>?_) (fun cdv A outer s H vs Q E hr h=>?_)
 ·obtain ⟨d,c,h,t,p,rfl,_⟩:=h
  rfl
 ·obtain ⟨d,c,h,t,p,rfl,hC,h1,h2,h3,k⟩:=h
  refine ⟨_,(Z4 (Jy PassesOwn.never rfl (Zew rfl T.b_range (Z0 (pe_op Z6x (pv 2) Z9) (Z0 (pe_op Z6x (Zu (Z5l rfl) rfl T.b_max Zcg (Z0 (pe_op Z6x (pv 2) (pv 1)) (Z0 Z9 Z3))) Z9) (Z0 (pe_un Zhg Z9) Z3)))) (Y4 (i:=4) Wx.nd rfl (Or.inl rfl)) (Z4 (Zy (i:=5) Wx.nd rfl (Or.inl rfl) (Zf (Xh T) (hr.mono (by decide)) rfl T.counting_of.m T.counting_of.F.kp T.counting_of.b .nil pass0 (Z0 (pv 0) (Z0 (pv 4) (Z0 (pv 3) Z3)))))
   (Z5 (ps_if (Z84 (pv 5) (fun _=>rfl)) (Z5 (Zc (Zv (Z0 (Z4s (Z0 (pe_ix Zj (pv 5) (pe_un Zhg Z9) (fun _ _=>rfl)) (Z0 Z9 Z3))) Z3)))) Zp))))
   (Z5 (Zc (Zv Z3)))),?_⟩
  have hmax:(if (1:Int)>(t:Int)-(h:Int) then (1:Int) else (t:Int)-(h:Int))-1=((t-1-min h (t-1):Nat):Int):=by
   split <;> omega
  refine ⟨_,rfl,_,_,rfl,rfl,_,rfl,_,rfl,_,_,rfl,rfl,_,_,rfl,_,_,rfl,rfl,_,rfl,(t:Int)-1,((t-1-min h (t-1):Nat):Int),-1,min h (t-1),?_,rgDown (by omega) (by omega) (by omega) (by omega),?_⟩
  ·show [V.int ((t:Int)-1),V.int ((if (1:Int)>(t:Int)-(h:Int) then (1:Int) else (t:Int)-(h:Int))-1),V.int (-1)]=_
   rw[hmax]
  refine Zdj (lo:=(t:Int)-1) (c:=-1) (n:=min h (t-1)) (fun i σ H'=>∃ v v2:Option V,σ=[some (.ref d),some (.int (h:Int)),some (.int (t:Int)),some (.int (p:Int)),v,v2]∧Same H H'∧∀ j,j<i→c (t-1-j) p=[]) ⟨none,none,rfl,Same.refl H,fun j hj=>absurd hj (Nat.not_lt_zero _)⟩ ?_ ?_
  ·rintro i σ H' hi ⟨v,v2,rfl,s1,hn⟩
   refine ⟨_,rfl,_,rfl,_,rfl,d,c,t-1-i,p,(by rw[show (t:Int)-1+(i:Int)*-1=((t-1-i:Nat):Int) by omega];rfl),hC.same s1,fun H2 l s2 hl=>?_⟩
   obtain ⟨as,hl1,hl2⟩:=id hl
   have hlen:as.length=(c (t-1-i) p).length:=Paired.length hl2
   refine ⟨_,rfl,!(as.map V.ref).isEmpty,.inl ⟨_,SqL.of hl1,rfl⟩,?_⟩
   have step:=latN c p i h t (by omega) (by omega) hn
   cases e:as with
   | nil=>
    refine iteF ⟨_,_,rfl,s1.trans s2,fun j hj=>?_⟩
    by_cases hji:j<i
    ·exact hn j hji
    ·have:j=i:=by omega
     subst this
     rw[e] at hlen
     exact List.length_eq_zero_iff.mp hlen.symm
   | cons a0 ar=>
    refine iteT ?_
    obtain ⟨b,hb⟩:∃ b,as[as.length-1]?=some b:=⟨as[as.length-1]'(by rw[e];simp),List.getElem?_eq_getElem _⟩
    obtain ⟨x,hx,hat⟩:=Y5 hl2 hb
    have hlast:(c (t-1-i) p).getLast?=some x:=by
     rw[List.getLast?_eq_getElem?,← hlen]
     exact hx
    have hv:lat c p h t=some x:=by
     rw[step]
     obtain ⟨m,hm⟩:∃ m,h-i=m+1:=⟨h-i-1,by omega⟩
     rw[hm]
     show (if t-i≤1 then none else match (c (t-i-1) p).getLast? with | some x=>some x | none=>lat c p m (t-i-1))=some x
     rw[if_neg (by omega),show t-i-1=t-1-i by omega,hlast]
    have hneg:atI (as.map V.ref) (-1)=some (.ref b):=by
     have l1:0<as.length:=by rw[e];simp
     unfold atI ixN
     rw[if_neg (by decide),if_pos (by rw[List.length_map];omega)]
     show (as.map V.ref)[(-1+((as.map V.ref).length:Int)).toNat]?=_
     rw[List.getElem?_map,List.length_map,show (-1+(as.length:Int)).toNat=as.length-1 by omega,hb]
     rfl
    refine ⟨_,rfl,_,rfl,l,_,_,_,rfl,rfl,SqL.of hl1,hneg,(by show 2≤sizeLine;decide),fun q hq=>?_⟩
    refine ⟨(by show 1≤sizeLine;decide),fun z hz=>?_⟩
    have s3:=(s1.trans s2).laid (o:=.tup [.ref b,.int 1]) hq
    have s4:=s3.laid (o:=.lst [.ref q]) hz
    refine k _ z s4 ?_
    unfold latD
    rw[hv]
    refine ⟨[q],Z2,.cons ⟨b,?_,?_⟩ .nil⟩
    ·rw[Z8 (Z6 Z2 hz),Z2];rfl
    ·exact hat.same ((Same.new hq).laid hz)
  ·rintro σ H' ⟨v,v2,rfl,s1,hn⟩
   refine ⟨Nat.zero_le _,fun z hz=>k _ z (s1.laid hz) ?_⟩
   have e:lat c p h t=none:=by
    rw[latN c p (min h (t-1)) h t (by omega) (by omega) hn]
    rcases Nat.le_total h (t-1) with q | q
    ·rw[Nat.min_eq_left q,Nat.sub_self];rfl
    ·rw[Nat.min_eq_right q]
     cases e2:h-(t-1) with
     | zero=>rfl
     | succ m=>
      show (if t-(t-1)≤1 then none else _)=none
      rw[if_pos (by omega)]
   unfold latD
   rw[e]
   exact ⟨[],Z2,.nil⟩
end
end Pr
end
section
namespace Pr
open PySem PySem.Spec PyProof.Rows L2
open Vbwsaf (Input Deed Stay Window Cells)
theorem Ys {H:Hp} {D:Addr} {xs ys:List V} (h:H D=some (.lst xs)):∀ b zs,H b=some (.tup zs)→upd H D (.lst ys) b=some (.tup zs):=fun b zs e=>by rw[Z8 (ne_of e h (fun z=>nomatch z))];exact e
theorem Xq {α β:Type} {R:α→β→Prop} {as:List α} {xs:List β} {a:α} {x:β} (h:Paired R as xs) (r:R a x):Paired R (as++[a]) (xs++[x]):=by
 induction h with
 | nil=>exact .cons r .nil
 | cons q t ih=>exact .cons q ih
theorem dC_bd {c:Nat→Nat→List Input} (hb:∀ t p,(c t p).length≤1000) (ss:List Stay) (h t p:Nat):(dC c ss h t p).length≤1000:=by
 unfold dC latD
 repeat' split
 ·show 1≤1000;decide
 ·decide
 ·decide
 ·rw[List.length_map];exact hb t p
section
variable {P:Program} {w:World} {K:PySem.W.Frag} {mg:Str→Option Value} {base:Heap}
def Zad (T:TX K mg):Sp:=fun vs H Q _=>∃ (d l:Addr) (as:List Addr) (ss:List Stay) (c:Nat→Nat→List Input) (h t:Nat),vs=[.ref d,.ref l,.int (h:Int),.int (t:Int)]∧CtAt H d c∧StaysAt T.cStay H l as ss∧ss.length≤1000∧1≤t∧t≤10000∧h≤1000 ∧
 ∀ H' q,Same H H'→H q=none→Lof DeAt H' q ((List.range 4).flatMap (dC c ss h t))→Q (.ref q) H'
theorem Zat (T:TX K mg):FnOk P w K mg base CX0 3 T.deeds_of.f T.deeds_of.d ["counts", "stays", "held", "tick"] (Zad T):=by
 refine T.deeds_of.F.ok J1 (fun vs H Q E h=>?_) (fun cdv A outer s H vs Q E hr h=>?_)
 ·obtain ⟨d,l,as,ss,c,h,t,rfl,_⟩:=h
  rfl
 ·obtain ⟨d,l,as,ss,c,h,t,rfl,hC,hS,hsl,h1,h2,h3,k⟩:=h
  obtain ⟨t_PLAYERS,Xs⟩:=T.Xs
  refine ⟨_,(Z4 (Zy (i:=4) J1.nd rfl (Or.inl rfl) (Zv Z3))
   (Z4 (Jy PassesOwn.never rfl (J8 rfl T.b_range (Z0 (Zd (v:=.int 4) rfl Xs ⟨t_PLAYERS,rfl⟩) Z3)) (Y4 (i:=5) J1.nd rfl (Or.inl rfl)) (Z4 (Zy (i:=6) J1.nd rfl (Or.inl rfl) (Zf (Xh T) (hr.mono (by decide)) rfl T.counting_of.m T.counting_of.F.kp T.counting_of.b .nil pass0 (Z0 (pv 0) (Z0 (pv 3) (Z0 (pv 5) Z3)))))
   (Z5 (ps_if (Z84 (pv 6) (fun _=>rfl)) (Z5 (Zx (pe_bm PySem.F.plainAttrs_list PySem.F.slot_list_extend PySem.F.type_list_extend Ux (pv 4) (Z0 (pe_lc (own:=[("one",7)]) rfl J1.nd (Ul (pv 6)) (Xw rfl) (fun _ _ _ _ _=>(Y4 (i:=7) J1.nd rfl (Or.inl rfl))) (fun _ _ _ _ _=>Z1j) (fun _ _ _ _ _=>(Z4s (Z0 (pv 7) (Z0 Z9 Z3))))) Z3)))) (Z5 (ps_if (Z4q (Zf (Z4v T) (hr.mono (by decide)) rfl T.is_there.m T.is_there.F.kp T.is_there.b .nil pass0 (Z0 (pv 1) (Z0 (pv 5) (Z0 (pv 3) Z3))))) (Z5 (Zx (pe_bm PySem.F.plainAttrs_list PySem.F.slot_list_extend PySem.F.type_list_extend Ux (pv 4) (Z0 (Zf (Z9h T) (hr.mono (by decide)) rfl T.guess_for.m T.guess_for.F.kp T.guess_for.b .nil pass0 (Z0 (pv 0) (Z0 (pv 2) (Z0 (pv 3) (Z0 (pv 5) Z3))))) Z3)))) Zp))))))
   (Z5 (Zc (pv 4))))),?_⟩
  refine ⟨Nat.zero_le _,fun D hD=>?_⟩
  refine ⟨4,rfl,by decide,by decide,Jb (lo:=0) (n:=4) (fun i σ H'=>∃ v v2:Option V,σ=[some (.ref d),some (.ref l),some (.int (h:Int)),some (.int (t:Int)),some (.ref D),v,v2,none]∧Same H H'∧Lof DeAt H' D ((List.range i).flatMap (dC c ss h t)))
   ⟨none,none,rfl,Same.new hD,[],Z2,.nil⟩ ?_ ?_⟩
  ·rintro i σ H1 hi ⟨v,v2,rfl,s1,bs,hb1,hb2⟩
   have lb:bs.length=((List.range i).flatMap (dC c ss h t)).length:=Paired.length hb2
   have lb2:=Z2c (dC c ss h t) 1000 (fun p=>dC_bd hC.bd ss h t p) i
   have lb3:=dC_bd hC.bd ss h t i
   have fin:∀ (H2:Hp) (q:Addr),Same H1 H2→Lof DeAt H2 q (dC c ss h t i)→∃ l b xs zs,V.ref D=.ref l∧[V.ref q]=[.ref b]∧H2 l=some (.lst xs)∧H2 b=some (.lst zs)∧xs.length+zs.length≤sizeLine∧Same H (upd H2 l (.lst (xs++zs)))∧Lof DeAt (upd H2 l (.lst (xs++zs))) D ((List.range (i+1)).flatMap (dC c ss h t)):=by
    rintro H2 q s2 ⟨cs,hq1,hq2⟩
    have hD2:=s2 _ _ hb1
    have lc:cs.length=(dC c ss h t i).length:=Paired.length hq2
    refine ⟨D,q,_,_,rfl,rfl,hD2,hq1,?_,fun b o e=>?_,bs++cs,?_,?_⟩
    ·rw[List.length_map,List.length_map,sizeLine_eq];omega
    ·rw[Z8 (Z6 e hD)];exact s2 _ _ (s1 _ _ e)
    ·rw[Z2,List.map_append]
    ·rw[Z0i]
     exact Lof.ext (Paired.mapP hb2 fun _ _ r=>(r.same s2).mono (Ys hD2)) (Paired.mapP hq2 fun _ _ r=>r.mono (Ys hD2))
   refine ⟨_,rfl,_,rfl,_,rfl,d,c,t,i,(by rw[Int.zero_add];rfl),hC.same s1,fun H2 r s2 hr2=>?_⟩
   obtain ⟨rs,hr1,hrp⟩:=hr2
   have lr:rs.length=(c t i).length:=Paired.length hrp
   refine ⟨_,rfl,!(rs.map V.ref).isEmpty,.inl ⟨_,SqL.of hr1,rfl⟩,?_⟩
   have hD2:=s2 _ _ hb1
   cases e:rs with
   | cons r0 rr=>
    refine iteT ?_
    have hne:¬ c t i=[]:=by
     intro z
     rw[z,e] at lr
     cases lr
    refine ⟨_,rfl,.inl ⟨rfl,_,SqL.of hD2⟩,_,rfl,r,rfl,⟨_,SqL.of hr1⟩,fun E0 hE0=>?_⟩
    refine Z59 (K:=K) (a:=r) (xs:=rs.map V.ref) (fun j H'=>Same H2 H'∧Lof DeAt H' E0 (((c t i).take j).map fun x=>⟨x,false⟩)) ⟨Same.new hE0,[],Z2,.nil⟩ (fun j H' _ q=>SqL.of (q.1 _ _ hr1)) ?_ ?_
    ·rintro j x H3 hj ⟨s3,fs,hf1,hf2⟩
     obtain ⟨a,ha,rfl⟩:=Xc hj
     obtain ⟨y,hy,hay⟩:=Y5 hrp ha
     have lf:fs.length=(((c t i).take j).map fun x=>(⟨x,false⟩:Deed)).length:=Paired.length hf2
     have lc:=hC.bd t i
     refine ⟨rfl,?_⟩
     simp only[tYes,if_true]
     refine ⟨_,rfl,(by show 2≤sizeLine;decide),fun z hz=>?_⟩
     have hE3:upd H3 z (.tup [.ref a,.int 0]) E0=some (.lst (fs.map V.ref)):=by rw[Z8 (Z6 hf1 hz)];exact hf1
     refine ⟨_,hE3,?_,fun b o e=>?_,fs++[z],?_,?_⟩
     ·rw[List.length_map,lf,List.length_map,List.length_take,sizeLine_eq];omega
     ·rw[Z8 (Z6 e hE0),Z8 (Z6 (s3 _ _ e) hz)];exact s3 _ _ e
     ·rw[Z2,List.map_append];rfl
     ·rw[List.take_add_one,hy,List.map_append]
      refine Xq (Paired.mapP hf2 fun _ _ r=>(r.same (Same.new hz)).mono (Ys hE3)) ⟨a,?_,?_⟩
      ·rw[Z8 (Z6 hf1 hz).symm,Z2];rfl
      ·exact (((hay.same s3).same (Same.new hz))).mono (Ys hE3)
    ·rintro H3 ⟨s3,hf⟩
     rw[List.length_map,lr,List.take_length] at hf
     obtain ⟨l',b',xs',zs',e1,e2,e3,e4,e5,e6,e7⟩:=fin H3 E0 (s2.trans s3) (by unfold dC;rw[if_neg hne];exact hf)
     exact ⟨l',b',xs',zs',e1,e2,e3,e4,e5,_,_,rfl,e6,e7⟩
   | nil=>
    refine iteF ?_
    have hne:c t i=[]:=by
     rw[e] at lr
     exact List.length_eq_zero_iff.mp lr.symm
    refine ⟨_,rfl,_,rfl,_,rfl,l,as,ss,i,t,(by rw[Int.zero_add];rfl),(hS.same s1).same s2,hsl,fun H3 s3=>⟨_,rfl,?_⟩⟩
    refine ite2 (fun z=>?_) (fun z=>?_)
    ·refine ⟨_,rfl,.inl ⟨rfl,_,SqL.of (s3 _ _ hD2)⟩,_,rfl,_,rfl,_,rfl,_,rfl,d,c,h,t,i,(by rw[Int.zero_add];rfl),((hC.same s1).same s2).same s3,h1,h2,h3,fun H4 q s4 hq=>?_⟩
     obtain ⟨l',b',xs',zs',e1,e2,e3,e4,e5,e6,e7⟩:=fin H4 q ((s2.trans s3).trans s4) (by unfold dC;rw[if_pos hne,if_pos z];exact hq)
     exact ⟨l',b',xs',zs',e1,e2,e3,e4,e5,_,_,rfl,e6,e7⟩
    ·refine ⟨_,_,rfl,(s1.trans s2).trans s3,?_⟩
     rw[Z0i,show dC c ss h t i=[] by unfold dC;rw[if_pos hne,if_neg z],List.append_nil]
     exact Lof.deS ⟨bs,hb1,hb2⟩ (s2.trans s3)
  ·rintro σ H' ⟨v,v2,rfl,s1,hl⟩
   exact ⟨_,rfl,k H' D s1 hD hl⟩
noncomputable def Zcv:Sp:=fun vs H Q _=>∃ (q:Addr) (ds:List Deed),vs=[.ref q]∧Lof DeAt H q ds∧ds.length≤1000∧(∀ d∈ds,d.input.data.length≤100)∧∀ H' p,Same H H'→LI H' p (ds.flatMap Vbwsaf.deedNums)→Q (.ref p) H'
theorem Zbs:∀ (ds:List Deed),(∀ d∈ds,d.input.data.length≤100)→(ds.flatMap Vbwsaf.deedNums).length≤ds.length*106
 | [],_=>by simp
 | d::ds,h=>by
  have h1:=Zbs ds fun x hx=>h x (List.mem_cons_of_mem _ hx)
  have h2:=h d List.mem_cons_self
  rw[List.flatMap_cons,List.length_append,List.length_cons,Nat.succ_mul]
  have:(Vbwsaf.deedNums d).length=6+d.input.data.length:=by
   unfold Vbwsaf.deedNums
   rw[List.length_append]
   rfl
  omega
theorem Z6z (T:TX K mg):FnOk P w K mg base CX0 1 T.rows_of.f T.rows_of.d ["deeds"] Zcv:=by
 refine T.rows_of.F.ok Z0p (fun vs H Q E h=>?_) (fun cdv A outer s H vs Q E hr h=>?_)
 ·obtain ⟨q,ds,rfl,_⟩:=h
  rfl
 ·obtain ⟨q,ds,rfl,⟨as,hq,hp⟩,hl1,hl2,k⟩:=h
  obtain ⟨t_SAYS,Z3f⟩:=T.Z3f
  refine ⟨_,(Z4 (Zy (i:=1) Z0p.nd rfl (Or.inl rfl) (Zv Z3))
   (Z4 (Jy PassesOwn.never rfl (Ul (pv 0)) (Y4 (i:=2) Z0p.nd rfl (Or.inl rfl)) (Z4 (Zy (i:=3) Z0p.nd rfl (Or.inl rfl) (pe_ix Yg (pv 2) Z9 (fun _ _=>rfl)))
   (Z4 (Zx (pe_bm PySem.F.plainAttrs_list PySem.F.slot_list_extend PySem.F.type_list_extend Z70 (pv 1) (Z0 (Z0s Zhj (pv 3) Z85 (Z05 (Zd (v:=.int 4) rfl Z3f ⟨t_SAYS,rfl⟩))) Z3)))
   (Z4 (Zx (pe_bm PySem.F.plainAttrs_list PySem.F.slot_list_extend PySem.F.type_list_extend Ux (pv 1) (Z0 (Zv (Z0 (pe_ix Yg (pv 2) Z9 (fun _ _=>rfl)) (Z0 (Zu Y2 rfl T.b_len Jo (Z0 (pe_ix Yg (pv 3) (Zd (v:=.int 4) rfl Z3f ⟨t_SAYS,rfl⟩) (fun _ _=>rfl)) Z3)) Z3))) Z3)))
   (Z5 (Zx (pe_bm PySem.F.plainAttrs_list PySem.F.slot_list_extend PySem.F.type_list_extend Z70 (pv 1) (Z0 (pe_ix Yg (pv 3) (Zd (v:=.int 4) rfl Z3f ⟨t_SAYS,rfl⟩) (fun _ _=>rfl)) Z3))))))))
   (Z5 (Zc (pv 1))))),?_⟩
  refine ⟨Nat.zero_le _,fun D hD=>?_⟩
  have hla:as.length=ds.length:=Paired.length hp
  refine ⟨_,rfl,q,rfl,⟨_,SqL.of (Same.new hD _ _ hq)⟩,Z2b (K:=K) (a:=q) (xs:=as.map V.ref) (fun i σ H'=>∃ v v2:Option V,σ=[some (.ref q),some (.ref D),v,v2]∧Same H H'∧LI H' D ((ds.take i).flatMap Vbwsaf.deedNums))
   ⟨none,none,rfl,Same.new hD,Z2⟩ (fun i σ H' _ ⟨_,_,_,s2,_⟩=>SqL.of (s2 _ _ hq)) ?_ ?_⟩
  ·rintro i y σ H1 hi ⟨v,v2,rfl,s1,h1⟩
   obtain ⟨a,ha,rfl⟩:=Xc hi
   obtain ⟨d,hd,b,hab,db,hb1,hb2⟩:=Y5 hp ha
   have hab1:=s1 _ _ hab
   have hbb1:=s1 _ _ hb1
   have hdb1:=s1 _ _ hb2
   have hlt:i<ds.length:=(List.getElem?_eq_some_iff.mp hd).1
   have ln:=Zbs (ds.take i) fun x hx=>hl2 x (List.mem_of_mem_take hx)
   rw[List.length_take] at ln
   have ld:=hl2 d (List.mem_of_getElem? hd)
   have hz:∀ n,n≤200→(((ds.take i).flatMap Vbwsaf.deedNums).map V.int).length+n≤sizeLine:=fun n hn=>by
    rw[List.length_map,sizeLine_eq]
    have:min i ds.length*106≤1000*106:=Nat.mul_le_mul_right _ (by omega)
    omega
   refine ⟨_,rfl,a,_,_,_,rfl,rfl,SqT.of hab1,Zl (j:=0) rfl,?_⟩
   refine ⟨_,rfl,.inl ⟨rfl,_,SqL.of h1⟩,_,rfl,4,rfl,b,_,rfl,SqT.of hbb1,(by show ¬ (0=0∧min 4 5=5);decide),fun z hz1=>?_⟩
   have cut:cutV ((inK d.input).1.map V.int++[V.ref db]) none (some 4)=[.int (d.input.player:Int),.int (d.input.stay:Int),.int (d.input.number:Int),.int (d.input.tick:Int)]:=rfl
   rw[cut]
   have hD2:upd H1 z (.tup [.int (d.input.player:Int),.int (d.input.stay:Int),.int (d.input.number:Int),.int (d.input.tick:Int)]) D=some (.lst (((ds.take i).flatMap Vbwsaf.deedNums).map V.int)):=by rw[Z8 (Z6 h1 hz1)];exact h1
   refine ⟨D,z,_,_,rfl,rfl,hD2,SqT.of Z2,hz 4 (by decide),?_⟩
   have t2:∀ b' zs,H1 b'=some (.tup zs)→upd (upd H1 z (.tup [.int (d.input.player:Int),.int (d.input.stay:Int),.int (d.input.number:Int),.int (d.input.tick:Int)])) D (.lst (((ds.take i).flatMap Vbwsaf.deedNums).map V.int++[.int (d.input.player:Int),.int (d.input.stay:Int),.int (d.input.number:Int),.int (d.input.tick:Int)])) b'=some (.tup zs):=fun b' zs e=>
    Ys hD2 b' zs (Same.new hz1 _ _ e)
   have nz:z≠D:=(Z6 h1 hz1).symm
   refine ⟨_,rfl,.inl ⟨rfl,_,SqL.of Z2⟩,_,rfl,a,_,_,_,rfl,rfl,SqT.of (t2 _ _ hab1),Zl (j:=1) rfl,_,rfl,b,_,_,_,rfl,rfl,SqT.of (t2 _ _ hbb1),Zl (j:=4) rfl,db,_,rfl,.inr (SqT.of (t2 _ _ hdb1)),(by show 2≤sizeLine;decide),fun z2 hz2=>?_⟩
   refine ⟨D,z2,_,_,rfl,rfl,(by rw[Z8 (Z6 Z2 hz2),Z2]),Z2,?_,?_⟩
   ·rw[List.length_append];exact hz 6 (by decide)
   refine ⟨_,rfl,.inl ⟨rfl,_,SqL.of Z2⟩,_,rfl,b,_,_,_,rfl,rfl,SqT.of (Ys (xs:=((ds.take i).flatMap Vbwsaf.deedNums).map V.int++[.int (d.input.player:Int),.int (d.input.stay:Int),.int (d.input.number:Int),.int (d.input.tick:Int)]) (by rw[Z8 (Z6 Z2 hz2),Z2]) _ _ (Same.new hz2 _ _ (t2 _ _ hbb1))),Zl (j:=4) rfl,?_⟩
   refine ⟨D,db,_,_,rfl,rfl,Z2,SqT.of (Ys (xs:=((ds.take i).flatMap Vbwsaf.deedNums).map V.int++[.int (d.input.player:Int),.int (d.input.stay:Int),.int (d.input.number:Int),.int (d.input.tick:Int)]) (by rw[Z8 (Z6 Z2 hz2),Z2]) _ _ (Same.new hz2 _ _ (t2 _ _ hdb1))),?_,?_⟩
   ·have hq6:=hz (4+2+d.input.data.length) (by omega)
    have l3:((inK d.input).2.map V.int).length=d.input.data.length:=List.length_map ..
    rw[List.length_append,List.length_append,l3]
    show _+4+2+_≤_
    omega
   ·refine ⟨_,_,rfl,fun b' o e=>?_,?_⟩
    ·have n1:=Z6 e hD
     have n2:b'≠z:=Z6 (s1 _ _ e) hz1
     have e3:upd (upd H1 z (.tup [.int (d.input.player:Int),.int (d.input.stay:Int),.int (d.input.number:Int),.int (d.input.tick:Int)])) D (.lst (((ds.take i).flatMap Vbwsaf.deedNums).map V.int++[.int (d.input.player:Int),.int (d.input.stay:Int),.int (d.input.number:Int),.int (d.input.tick:Int)])) b'=some o:=by
      rw[Z8 n1,Z8 n2];exact s1 _ _ e
     rw[Z8 n1,Z8 n1,Z8 (Z6 e3 hz2)]
     exact e3
    ·show upd _ D _ D=_
     rw[Z2,List.take_add_one,hd,List.flatMap_append]
     congr 2
     rw[List.map_append]
     show _=_++(([d].flatMap Vbwsaf.deedNums).map V.int)
     rw[List.append_assoc,List.append_assoc]
     congr 1
     unfold Vbwsaf.deedNums
     simp
     exact ⟨rfl,rfl⟩
  ·rintro σ H' ⟨v,v2,rfl,s1,hl⟩
   rw[List.length_map,hla,List.take_length] at hl
   exact ⟨_,rfl,k H' D s1 hl⟩
end
end Pr
end
section
namespace Pr
open PySem PySem.Spec PyProof.Rows L2
open Vbwsaf (Input Deed Stay Window Cells)
theorem Z9m {A:Around} {k:Nat} (hr:Room k A):A.units+128<cLine:=by have:=hr.un;omega
theorem Z29:∀ l m:List Int,HT.lexLt l m=Vbwsaf.lessRow l m
 | [],[]=>rfl
 | [],_::_=>rfl
 | _::_,[]=>rfl
 | x::l,y::m=>by
  rw[HT.Uy,Li.Z54,Z29 l m]
  by_cases h:x=y
  ·subst h
   simp
  ·rw[if_neg h,show (x==y)=false from beq_eq_false_iff_ne.mpr h]
   simp
theorem Zhm (x y:Input):HT.lexLt (Nest.fl (inK x)) (Nest.fl (inK y))=Vbwsaf.less x y:=Z29 _ _
noncomputable def unK (k:Nest.NK):Input:=⟨(k.1.getD 0 0).toNat,(k.1.getD 1 0).toNat,(k.1.getD 2 0).toNat,(k.1.getD 3 0).toNat,k.2⟩
theorem un_in (x:Input):unK (inK x)=x:=rfl
theorem Zfo {x y:Input} (h:inK x=inK y):x=y:=by rw[← un_in x,← un_in y,h]
theorem Zcz {ks:List Nest.NK} {all l:List Input} (hp:ks.Perm (l.map inK)) (hs:ks.Pairwise fun x y=>HT.lexLt (Nest.fl y) (Nest.fl x)=false) (ha:all.Perm l) (ho:Li.Ord all):ks=all.map inK:=by
 have hm:∀ k∈ks,inK (unK k)=k:=fun k hk=>by
  obtain ⟨x,_,rfl⟩:=List.mem_map.mp (hp.mem_iff.mp hk)
  rfl
 have e1:ks=(ks.map unK).map inK:=by
  rw[List.map_map]
  conv=>lhs;rw[← List.map_id ks]
  exact List.map_congr_left fun k hk=>(hm k hk).symm
 have p2:(ks.map unK).Perm all:=by
  have:=hp.map unK
  rw[List.map_map,show (unK∘inK)=id from rfl,List.map_id] at this
  exact this.trans ha.symm
 have nd:(ks.map unK).Nodup:=p2.nodup_iff.mpr (ho.imp fun h=>Li.less_ne h)
 have o2:Li.Ord (ks.map unK):=by
  have h1:(ks.map unK).Pairwise fun x y=>Vbwsaf.less y x=false:=by
   rw[List.pairwise_map]
   refine hs.imp_of_mem fun {x y} hx hy q=>?_
   rw[← Zhm,hm x hx,hm y hy]
   exact q
  refine (h1.and nd).imp fun {x y} q=>?_
  cases e:Vbwsaf.less x y with
  | true=>rfl
  | false=>exact absurd (Li.Z72 e q.1) q.2
 rw[e1,Li.Z6w o2 ho p2]
theorem Zgf {kvs:List (List Key×V)} {k:List Key} {v:V} (h:valV kvs k=some v):(k,v)∈kvs:=by
 unfold valV at h
 cases e:kvs.find? (fun kv=>decide (kv.1=k)) with
 | none=>rw[e] at h;cases h
 | some q=>
  rw[e] at h
  have h1:q.1=k:=by simpa using List.find?_some e
  have h2:q.2=v:=by simpa using h
  rw[← h1,← h2]
  exact List.mem_of_find?_eq_some e
structure EntAt (H:Hp) (F:Addr) (E:List (Nat×Nat×Addr)) (c:Nat→Nat→List Input):Prop where
 d:H F=some (.dT (E.map fun e=>(tpK e.1 e.2.1,V.ref e.2.2)))
 nd:(E.map fun e=>e.2.2).Nodup
 kd:(E.map fun e=>(e.1,e.2.1)).Nodup
 at_:∀ e∈E,Lof InAt H e.2.2 (c e.1 e.2.1)
 no:∀ t p,(∀ e∈E,¬ (e.1=t∧e.2.1=p))→c t p=[]
theorem Ze5 {t p t' p':Nat} (h:tpK t p=tpK t' p'):t=t'∧p=p':=by
 injection h with h1 h2
 injection h2 with h2 _
 injection h1 with h1
 injection h2 with h2
 omega
theorem Zhf {E:List (Nat×Nat×Addr)} {t p:Nat} (h:∀ e∈E,¬ (e.1=t∧e.2.1=p)):valV (E.map fun e=>(tpK e.1 e.2.1,V.ref e.2.2)) (tpK t p)=none:=by
 induction E with
 | nil=>rfl
 | cons e E ih=>
  rw[List.map_cons,W2 (fun q=>h e List.mem_cons_self (Ze5 q)),ih fun e' he=>h e' (List.mem_cons_of_mem _ he)]
theorem Z6f {E:List (Nat×Nat×Addr)} {e:Nat×Nat×Addr} (hn:(E.map fun e=>(e.1,e.2.1)).Nodup) (he:e∈E):valV (E.map fun e=>(tpK e.1 e.2.1,V.ref e.2.2)) (tpK e.1 e.2.1)=some (.ref e.2.2):=by
 induction E with
 | nil=>exact nomatch he
 | cons e' E ih=>
  rw[List.map_cons] at hn
  rw[List.map_cons]
  by_cases q:tpK e'.1 e'.2.1=tpK e.1 e.2.1
  ·have q2:=Ze5 q
   rw[Z0n q]
   rcases List.mem_cons.mp he with rfl | he
   ·rfl
   ·refine absurd ?_ (List.nodup_cons.mp hn).1
    exact List.mem_map.mpr ⟨e,he,by rw[q2.1,q2.2]⟩
  ·rw[W2 q]
   rcases List.mem_cons.mp he with rfl | he
   ·exact absurd rfl q
   ·exact ih (List.nodup_cons.mp hn).2 he
theorem Z1x (E:List (Nat×Nat×Addr)) (t p:Nat):(∃ e∈E,e.1=t∧e.2.1=p)∨∀ e∈E,¬ (e.1=t∧e.2.1=p):=by
 by_cases h:∃ e∈E,e.1=t∧e.2.1=p
 ·exact .inl h
 ·exact .inr fun e he q=>h ⟨e,he,q⟩
theorem EntAt.ct {H:Hp} {F:Addr} {E:List (Nat×Nat×Addr)} {c:Nat→Nat→List Input} (h:EntAt H F E c) (hb:∀ t p,(c t p).length≤1000):CtAt H F c:=by
 refine ⟨⟨_,h.d,fun t p=>⟨fun e=>?_,fun v e=>?_⟩⟩,hb⟩
 ·rcases Z1x E t p with ⟨x,hx,rfl,rfl⟩ | q
  ·rw[Z6f h.kd hx] at e
   cases e
  ·exact h.no t p q
 ·rcases Z1x E t p with ⟨x,hx,rfl,rfl⟩ | q
  ·rw[Z6f h.kd hx] at e
   cases e
   exact ⟨_,rfl,h.at_ x hx⟩
  ·rw[Zhf q] at e
   cases e
theorem EntAt.same {H H':Hp} {F:Addr} {E:List (Nat×Nat×Addr)} {c:Nat→Nat→List Input} (h:EntAt H F E c) (s:Same H H'):EntAt H' F E c:=⟨s _ _ h.d,h.nd,h.kd,fun e he=>(h.at_ e he).inS s,h.no⟩
theorem EntAt.new {H:Hp} {F q:Addr} {E:List (Nat×Nat×Addr)} {c:Nat→Nat→List Input} {t p:Nat} (h:EntAt H F E c) (hn:∀ e∈E,¬ (e.1=t∧e.2.1=p)) (hq:H q=some (.lst [])) (hf:∀ e∈E,e.2.2≠q):EntAt (upd H F (.dT ((E.map fun e=>(tpK e.1 e.2.1,V.ref e.2.2))++[(tpK t p,.ref q)]))) F (E++[(t,p,q)]) c:=by
 have keepT:∀ b xs,H b=some (.tup xs)→upd H F (.dT ((E.map fun e=>(tpK e.1 e.2.1,V.ref e.2.2))++[(tpK t p,.ref q)])) b=some (.tup xs):=fun b xs e=>by rw[Z8 (ne_of e h.d (fun z=>nomatch z))];exact e
 have keepL:∀ b xs,H b=some (.lst xs)→upd H F (.dT ((E.map fun e=>(tpK e.1 e.2.1,V.ref e.2.2))++[(tpK t p,.ref q)])) b=some (.lst xs):=fun b xs e=>by rw[Z8 (ne_of e h.d (fun z=>nomatch z))];exact e
 refine ⟨?_,?_,?_,fun e he=>?_,fun t' p' hn'=>?_⟩
 ·rw[Z2,List.map_append];rfl
 ·rw[List.map_append,List.nodup_append]
  refine ⟨h.nd,by simp,fun a ha b hb=>?_⟩
  obtain ⟨e,he,rfl⟩:=List.mem_map.mp ha
  have:b=q:=by simpa using hb
  rw[this]
  exact hf e he
 ·rw[List.map_append,List.nodup_append]
  refine ⟨h.kd,by simp,fun a ha b hb=>?_⟩
  obtain ⟨e,he,rfl⟩:=List.mem_map.mp ha
  have:b=(t,p):=by simpa using hb
  rw[this]
  intro q
  injection q with q1 q2
  exact hn e he ⟨q1,q2⟩
 ·rcases List.mem_append.mp he with he | he
  ·obtain ⟨as,h1,h2⟩:=h.at_ e he
   exact ⟨as,keepL _ _ h1,Paired.mapP h2 fun _ _ r=>NAt.mono r keepT⟩
  ·have:e=(t,p,q):=by simpa using he
   subst this
   refine ⟨[],keepL _ _ hq,?_⟩
   rw[h.no t p hn]
   exact .nil
 ·exact h.no t' p' fun e he=>hn' e (List.mem_append_left _ he)
theorem EntAt.app {H:Hp} {F:Addr} {E:List (Nat×Nat×Addr)} {c:Nat→Nat→List Input} {e:Nat×Nat×Addr} {as:List Addr} {a:Addr} {x:Input} (h:EntAt H F E c) (he:e∈E) (hl:H e.2.2=some (.lst (as.map V.ref))) (hp:Paired (InAt H) as (c e.1 e.2.1)) (hx:InAt H a x) :
  EntAt (upd H e.2.2 (.lst (as.map V.ref++[.ref a]))) F E (fun t p=>if t=e.1∧p=e.2.1 then c e.1 e.2.1++[x] else c t p):=by
 have keepT:=Ys (ys:=as.map V.ref++[.ref a]) hl
 refine ⟨?_,h.nd,h.kd,fun e' he'=>?_,fun t p hn=>?_⟩
 ·rw[Z8 (ne_of h.d hl (fun z=>nomatch z))];exact h.d
 ·by_cases q:e'.1=e.1∧e'.2.1=e.2.1
  ·have ee:e'=e:=by
    have:=h.kd
    by_cases z:e'=e
    ·exact z
    ·exfalso
     have h1:=Z6f h.kd he
     have h2:=Z6f h.kd he'
     rw[q.1,q.2,h1] at h2
     injection h2 with h2
     injection h2 with h2
     exact z (Prod.ext q.1 (Prod.ext q.2 h2.symm))
   subst ee
   show Lof InAt _ _ (if e'.1=e'.1∧e'.2.1=e'.2.1 then _ else _)
   rw[if_pos ⟨rfl,rfl⟩]
   refine ⟨as++[a],?_,?_⟩
   ·rw[Z2,List.map_append];rfl
   ·exact Xq (Paired.mapP hp fun _ _ r=>NAt.mono r keepT) (NAt.mono hx keepT)
  ·show Lof InAt _ _ (if e'.1=e.1∧e'.2.1=e.2.1 then _ else _)
   rw[if_neg q]
   have hne:e'.2.2≠e.2.2:=by
    intro z
    have inj:∀ {E:List (Nat×Nat×Addr)},(E.map fun e=>e.2.2).Nodup→e∈E→e'∈E→e'=e:=by
     intro E
     induction E with
     | nil=>intro _ h;exact nomatch h
     | cons y E ih=>
      intro hn h1 h2
      rw[List.map_cons] at hn
      obtain ⟨n1,n2⟩:=List.nodup_cons.mp hn
      rcases List.mem_cons.mp h1 with q1 | q1
      ·rcases List.mem_cons.mp h2 with q2 | q2
       ·rw[q1,q2]
       ·rw[← q1] at n1
        exact absurd (List.mem_map.mpr ⟨e',q2,z⟩) n1
      ·rcases List.mem_cons.mp h2 with q2 | q2
       ·rw[← q2] at n1
        exact absurd (List.mem_map.mpr ⟨e,q1,z.symm⟩) n1
       ·exact ih n2 q1 q2
    have:=inj h.nd he he'
    rw[this] at q
    exact q ⟨rfl,rfl⟩
   obtain ⟨bs,h1,h2⟩:=h.at_ e' he'
   exact ⟨bs,by rw[Z8 hne];exact h1,Paired.mapP h2 fun _ _ r=>NAt.mono r keepT⟩
 ·show (if t=e.1∧p=e.2.1 then _ else _)=_
  rw[if_neg (fun q=>hn e he ⟨q.1.symm,q.2.symm⟩)]
  exact h.no t p hn
def lastNm (l:List Input):Option (Nat×Nat×Nat):=l.getLast?.map Li.nm
theorem Zfr (x:Input) (l:List Input):Li.goF none (l++[x])=Li.goF none l++(if some (Li.nm x)=lastNm l then [] else [x]):=by
 have q:=Li.Z8n x l none
 unfold lastNm
 cases h:l.getLast? with
 | none=>rw[h] at q;exact q
 | some y=>rw[h] at q;exact q
noncomputable def nmD:Option (Nat×Nat×Nat)→PyData
 | none=>.none
 | some (p,k,n)=>.tuple [.int (p:Int),.int (k:Int),.int (n:Int)]
theorem Z0u (o:Option (Nat×Nat×Nat)):SeqAt.shaped (nmD o)=true:=by
 rcases o with _ | ⟨p,k,n⟩
 ·rfl
 ·simp[nmD,SeqAt.shaped,PyData.canLay0,PyData.canLayAll0,PyData.depth,PyData.depthAll]
theorem Zf6 (a:Nat×Nat×Nat) (o:Option (Nat×Nat×Nat)):PyData.eqv (nmD (some a)) (nmD o)=decide (some a=o):=by
 obtain ⟨p,k,n⟩:=a
 rcases o with _ | ⟨p',k',n'⟩
 ·simp[nmD,PyData.eqv]
 ·show (((p:Int)==(p':Int))&&(((k:Int)==(k':Int))&&(((n:Int)==(n':Int))&&true)))=_
  rw[Bool.eq_iff_iff]
  simp
  omega
theorem Z8o {K:PySem.W.Frag} {H:Hp} {q:Addr} {p k n:Nat} (h:H q=some (.tup [.int (p:Int),.int (k:Int),.int (n:Int)])):Dp K H (.ref q) (nmD (some (p,k,n))):=
 .tup (SqT.of h) (.cons (.int _) (.cons (.int _) (.cons (.int _) .nil)))
def NmAt (H:Hp) (v:V):Option (Nat×Nat×Nat)→Prop
 | none=>v=.non
 | some (p,k,n)=>∃ q,v=.ref q∧H q=some (.tup [.int (p:Int),.int (k:Int),.int (n:Int)])
theorem NmAt.mono {H H':Hp} {v:V} {o:Option (Nat×Nat×Nat)} (h:NmAt H v o) (ht:∀ b xs,H b=some (.tup xs)→H' b=some (.tup xs)):NmAt H' v o:=by
 rcases o with _ | ⟨p,k,n⟩
 ·exact h
 ·obtain ⟨q,e,h⟩:=h
  exact ⟨q,e,ht _ _ h⟩
theorem NmAt.dp {K:PySem.W.Frag} {H:Hp} {v:V} {o:Option (Nat×Nat×Nat)} (h:NmAt H v o):Dp K H v (nmD o):=by
 rcases o with _ | ⟨p,k,n⟩
 ·rw[show v=.non from h]
  exact .non
 ·obtain ⟨q,rfl,h⟩:=h
  exact Z8o h
section
variable {P:Program} {w:World} {K:PySem.W.Frag} {mg:Str→Option Value} {base:Heap}
def Zae:Sp:=fun vs H Q _=>∃ (d:Addr) (ks all:List Input) (m:Nat),vs=[.ref d,.int (m:Int)]∧H d=some (.dN (ks.map fun x=>(inK x,.bl true)))∧all.Perm ks∧Li.Ord all∧all.length≤1000∧m≤1000 ∧
 ∀ H' p,Same H H'→H p=none→CtAt H' p (Li.cnt m (Vbwsaf.firsts all))→(∀ kvs,H' p=some (.dT kvs)→∀ k v,valV kvs k=some v→∃ l,v=.ref l∧H l=none)→Q (.ref p) H'
theorem Zau (T:TX K mg):FnOk P w K mg base CX0 2 T.counting.f T.counting.d ["kept", "most"] Zae:=by
 refine T.counting.F.ok J2 (fun vs H Q E h=>?_) (fun cdv A outer s H vs Q E hr h=>?_)
 ·obtain ⟨d,ks,all,m,rfl,_⟩:=h
  rfl
 ·obtain ⟨d,ks,all,m,rfl,hd,hp,ho,hl,hm,k⟩:=h
  obtain ⟨t_PLAYER,Xd⟩:=T.Xd
  obtain ⟨t_TICK,Jn⟩:=T.Jn
  have hu:=hu_of hr
  have hu1:=Z9m hr
  refine ⟨_,(Z4 (Zy (i:=2) J2.nd rfl (Or.inl rfl) Z88)
   (Z4 (Zy (i:=3) J2.nd rfl (Or.inl rfl) Z6t)
   (Z4 (Jy PassesOwn.never rfl (Ul (Zu (Zdm rfl hu1) rfl T.b_sorted Z9s (Z0 (pv 0) Z3))) (Y4 (i:=4) J2.nd rfl (Or.inl rfl)) (Z4 (ps_if (Zr (Zhl hr.units) (Zf (Z0t T) (hr.mono (by decide)) rfl T.name_of.m T.name_of.F.kp T.name_of.b .nil pass0 (Z0 (pv 4) Z3)) (pv 3) (Y8 _)) (Z5 Zam) Zp)
   (Z4 (Zy (i:=3) J2.nd rfl (Or.inl rfl) (Zf (Z0t T) (hr.mono (by decide)) rfl T.name_of.m T.name_of.F.kp T.name_of.b .nil pass0 (Z0 (pv 4) Z3)))
   (Z4 (Zy (i:=5) J2.nd rfl (Or.inl rfl) (pe_bm PySem.F.plainAttrs_dict PySem.F.slot_dict_setdefault PySem.F.type_dict_setdefault (Zf8 hu) (pv 2) (Z0 (Z4s (Z0 (pe_ix Yg (pv 4) (Zd (v:=.int 3) rfl Jn ⟨t_TICK,rfl⟩) (fun _ _=>rfl)) (Z0 (pe_ix Yg (pv 4) (Zd (v:=.int 0) rfl Xd ⟨t_PLAYER,rfl⟩) (fun _ _=>rfl)) Z3))) (Z0 (Zv Z3) Z3))))
   (Z5 (ps_if (Zr op_lt (Zu Y2 rfl T.b_len Jo (Z0 (pv 5) Z3)) (pv 1) (Y8 _)) (Z5 (Zx (pe_bm PySem.F.plainAttrs_list PySem.F.slot_list_append PySem.F.type_list_append Z53 (pv 5) (Z0 (pv 4) Z3)))) Zp))))))
   (Z5 (Zc (pv 2)))))),?_⟩
  intro F hF
  refine ⟨_,rfl,d,_,rfl,(show upd H F (.dT []) d=_ by rw[Z8 (Z6 hd hF)];exact hd),fun kv hkv=>?_,fun ks' out p hperm hsort hpair hp0=>?_⟩
  ·obtain ⟨x,_,rfl⟩:=List.mem_map.mp hkv
   rfl
  have hperm':ks'.Perm (ks.map inK):=by
   rw[List.map_map] at hperm
   exact hperm
  have eks:=Zcz hperm' hsort hp ho
  subst eks
  have s0:Same H (upd H F (.dT [])):=Same.new hF
  have s1:=s0.laid (o:=.lst (out.map V.ref)) hp0
  have hpF:F≠p:=Z6 Z2 hp0
  have hpo:Paired (InAt (upd (upd H F (.dT [])) p (.lst (out.map V.ref)))) out all:=by
   have go:∀ {H1 H2:Hp} (ht:Same H1 H2) {l:List Input} {out:List Addr},Paired (fun k b=>NAt H1 k b) (l.map inK) out→Paired (InAt H2) out l:=by
    intro H1 H2 ht l
    induction l with
    | nil=>intro out h;rw[List.map_nil] at h;cases h;exact .nil
    | cons x l ih=>
     intro out h
     rw[List.map_cons] at h
     cases h with
     | cons r t=>exact .cons (InAt.same r ht) (ih t)
   exact go (Same.new hp0) hpair
  have hlo:out.length=all.length:=Paired.length hpo
  refine ⟨p,rfl,⟨_,SqL.of Z2⟩,Z2b (K:=K) (a:=p) (xs:=out.map V.ref) (fun i σ H'=>∃ (nv:V) (v4 v5:Option V) (Es:List (Nat×Nat×Addr)),σ=[some (.ref d),some (.int (m:Int)),some (.ref F),some nv,v4,v5]∧Same H H'∧H' p=some (.lst (out.map V.ref)) ∧
    (∀ b xs,upd (upd H F (.dT [])) p (.lst (out.map V.ref)) b=some (.tup xs)→H' b=some (.tup xs))∧NmAt H' nv (lastNm (all.take i))∧EntAt H' F Es (Li.cnt m (Li.goF none (all.take i)))∧(∀ e∈Es,e.2.2≠p∧H e.2.2=none)∧Es.length≤i)
   ⟨.non,none,none,[],rfl,s1,Z2,fun _ _ e=>e,rfl,⟨by rw[Z8 hpF,Z2];rfl,List.nodup_nil,List.nodup_nil,fun e he=>(nomatch he),fun t p _=>(by simp[Li.cnt,Li.goF])⟩,fun e he=>(nomatch he),Nat.le_refl _⟩ (fun i σ H' _ ⟨_,_,_,_,_,_,h,_⟩=>SqL.of h) ?_ ?_⟩
  ·rintro i y σ H1 hi ⟨nv,v4,v5,Es,rfl,s2,hpl,ht,hnv,hE,hEp,hEl⟩
   obtain ⟨a,ha,rfl⟩:=Xc hi
   obtain ⟨x,hx,hax⟩:=Y5 hpo ha
   have hax1:InAt H1 a x:=NAt.mono hax ht
   have hlt:i<all.length:=(List.getElem?_eq_some_iff.mp hx).1
   have step:=Zfr x (all.take i)
   have etake:all.take (i+1)=all.take i++[x]:=by rw[List.take_add_one,hx];rfl
   have elast:lastNm (all.take (i+1))=some (Li.nm x):=by rw[etake];unfold lastNm;simp
   rw[← etake] at step
   refine ⟨_,rfl,a,x,rfl,hax1,fun q hq=>?_⟩
   have t1:∀ b xs,H1 b=some (.tup xs)→upd H1 q (.tup [.int (x.player:Int),.int (x.stay:Int),.int (x.number:Int)]) b=some (.tup xs):=fun b xs e=>Same.new hq _ _ e
   refine ⟨_,rfl,_,_,Z8o Z2,(hnv.mono t1).dp,Z0u _,Z0u _,_,rfl,?_⟩
   rw[Zf6]
   refine ite2 (fun z=>?_) (fun z=>?_)
   ·have z:some (Li.nm x)=(lastNm (all.take i)):=of_decide_eq_true z
    rw[if_pos z,List.append_nil] at step
    refine ⟨_,_,_,Es,rfl,s2.laid hq,Same.new hq _ _ hpl,fun b xs e=>t1 _ _ (ht _ _ e),?_,?_,hEp,by omega⟩
    ·rw[elast]
     rw[← z] at hnv
     exact hnv.mono t1
    ·rw[step]
     exact hE.same (Same.new hq)
   ·have z:¬ some (Li.nm x)=(lastNm (all.take i)):=fun e=>z (decide_eq_true e)
    rw[if_neg z] at step
    have s3:=s2.laid (o:=.tup [.int (x.player:Int),.int (x.stay:Int),.int (x.number:Int)]) hq
    refine ⟨_,rfl,a,x,rfl,hax1.same (Same.new hq),fun q2 hq2=>?_⟩
    have sN:Same H1 (upd (upd H1 q (.tup [.int (x.player:Int),.int (x.stay:Int),.int (x.number:Int)])) q2 (.tup [.int (x.player:Int),.int (x.stay:Int),.int (x.number:Int)])):=(Same.new hq).laid hq2
    generalize hH2:upd (upd H1 q (.tup [.int (x.player:Int),.int (x.stay:Int),.int (x.number:Int)])) q2 (.tup [.int (x.player:Int),.int (x.stay:Int),.int (x.number:Int)])=H2 at sN ⊢
    have hq2':H2 q2=some (.tup [.int (x.player:Int),.int (x.stay:Int),.int (x.number:Int)]):=by rw[← hH2];exact Z2
    obtain ⟨da,ha1,ha2⟩:=hax1.same sN
    have hE2:=hE.same sN
    have hp2:=sN _ _ hpl
    refine ⟨_,rfl,.inr (.inr (.inl ⟨rfl,.inr ⟨_,hE2.d⟩⟩)),_,rfl,a,_,_,_,rfl,rfl,SqT.of ha1,Zl (j:=3) rfl,_,rfl,a,_,_,_,rfl,rfl,SqT.of ha1,Zl (j:=0) rfl,(by show 2≤sizeLine;decide),fun b hb=>⟨Nat.zero_le _,fun r hr0=>?_⟩⟩
    have sB:Same H2 (upd (upd H2 b (.tup [.int (x.tick:Int),.int (x.player:Int)])) r (.lst [])):=(Same.new hb).laid hr0
    have hb3:upd (upd H2 b (.tup [.int (x.tick:Int),.int (x.player:Int)])) r (.lst []) b=some (.tup ((tpK x.tick x.player).map kV)):=by rw[Z8 (Z6 Z2 hr0),Z2];rfl
    have hr3:upd (upd H2 b (.tup [.int (x.tick:Int),.int (x.player:Int)])) r (.lst []) r=some (.lst []):=Z2
    have hrE:∀ e∈Es,e.2.2≠r:=fun e he=>by
     obtain ⟨_,h,_⟩:=hE2.at_ e he
     exact Z6 (Same.new hb _ _ h) hr0
    have hrp:r≠p:=(Z6 (Same.new hb _ _ hp2) hr0).symm
    generalize hH3:upd (upd H2 b (.tup [.int (x.tick:Int),.int (x.player:Int)])) r (.lst [])=H3 at sB hb3 hr3
    have hE3:=hE2.same sB
    have s4:Same H1 H3:=sN.trans sB
    have hEs:(Es.map fun e=>(tpK e.1 e.2.1,V.ref e.2.2)).length<sizeLine:=by rw[List.length_map,sizeLine_eq];omega
    have fin:∀ (H4:Hp) (Es':List (Nat×Nat×Addr)) (e:Nat×Nat×Addr),Same H H4→H4 p=some (.lst (out.map V.ref))→(∀ b xs,H3 b=some (.tup xs)→H4 b=some (.tup xs))→EntAt H4 F Es' (Li.cnt m (Li.goF none (all.take i)))→(∀ e∈Es',e.2.2≠p∧H e.2.2=none)→Es'.length≤i+1→e∈Es'→e.1=x.tick→e.2.1=x.player →
      tIfS (tTest (tOp (rI0 fun i j=>.bl (decide (i<j))) (tCB (fun xs H Q=>∃ p ys,xs=[V.ref p]∧(SqL K H p ys∨SqT K H p ys)∧Q (V.int ys.length) H) (tCons (tVar 5) tNil)) (tVar 1))) (tDrop (tBM K "list" rAppend (tVar 5) (tCons (tVar 4) tNil))) tNext
       { nx:=fun σ H'=>∃ (nv:V) (v4 v5:Option V) (Es:List (Nat×Nat×Addr)),σ=[some (.ref d),some (.int (m:Int)),some (.ref F),some nv,v4,v5]∧Same H H'∧H' p=some (.lst (out.map V.ref))∧(∀ b xs,upd (upd H F (.dT [])) p (.lst (out.map V.ref)) b=some (.tup xs)→H' b=some (.tup xs))∧NmAt H' nv (lastNm (all.take (i+1)))∧EntAt H' F Es (Li.cnt m (Li.goF none (all.take (i+1))))∧(∀ e∈Es,e.2.2≠p∧H e.2.2=none)∧Es.length≤i+1,rt:=Q } [some (.ref d),some (.int (m:Int)),some (.ref F),some (.ref q2),some (.ref a),some (.ref e.2.2)] H4:=by
     intro H4 Es' e s5 hp4 ht4 hE4 hEp4 hEl4 he e1 e2
     have hfr:=(hEp4 e he).2
     obtain ⟨as,hl1,hl2⟩:=hE4.at_ e he
     have hla:as.length=(Li.cnt m (Li.goF none (all.take i)) e.1 e.2.1).length:=Paired.length hl2
     have hcl:=Li.Z8q m (Li.goF none (all.take i)) e.1 e.2.1
     have tAll:∀ b xs,upd (upd H F (.dT [])) p (.lst (out.map V.ref)) b=some (.tup xs)→H4 b=some (.tup xs):=fun b xs e=>ht4 _ _ (s4 _ _ (ht _ _ e))
     have hnew:=Li.Zhb m (Li.goF none (all.take i)) x
     have hnm:NmAt H4 (.ref q2) (lastNm (all.take (i+1))):=by
      rw[elast]
      exact ⟨q2,rfl,ht4 _ _ (sB _ _ hq2')⟩
     refine ⟨_,rfl,e.2.2,_,rfl,.inl (SqL.of hl1),_,rfl,_,_,rfl,rfl,_,rfl,?_⟩
     refine ite2 (fun z=>?_) (fun z=>?_)
     ·have z:as.length<m:=by
       have:=of_decide_eq_true z
       rw[List.length_map] at this
       omega
      refine ⟨_,rfl,.inl ⟨rfl,_,SqL.of hl1⟩,_,rfl,e.2.2,_,_,rfl,rfl,hl1,?_,?_⟩
      ·rw[List.length_map,sizeLine_eq];omega
      ·have hax4:InAt H4 a x:=NAt.mono (NAt.mono hax1 (fun b xs e=>s4 _ _ e)) ht4
       have app:=hE4.app he hl1 hl2 hax4
       have tU:=Ys (ys:=as.map V.ref++[.ref a]) hl1
       refine ⟨_,_,_,Es',rfl,fun b o eb=>?_,?_,fun b xs eb=>tU _ _ (tAll _ _ eb),hnm.mono tU,?_,hEp4,hEl4⟩
       ·rw[Z8 (Z6 eb hfr)];exact s5 _ _ eb
       ·rw[Z8 (hEp4 e he).1.symm];exact hp4
       ·have ef:(fun t p=>if t=e.1∧p=e.2.1 then Li.cnt m (Li.goF none (all.take i)) e.1 e.2.1++[x] else Li.cnt m (Li.goF none (all.take i)) t p)=Li.cnt m (Li.goF none (all.take (i+1))):=by
         funext t p'
         rw[step,hnew t p']
         by_cases qq:t=e.1∧p'=e.2.1
         ·rw[if_pos qq,qq.1,qq.2,if_pos ⟨e1.symm,e2.symm,by omega⟩]
         ·rw[if_neg qq,if_neg (fun w=>qq ⟨by rw[e1];exact w.1.symm,by rw[e2];exact w.2.1.symm⟩)]
        rw[ef] at app
        exact app
     ·have z:¬ as.length<m:=fun w=>z (decide_eq_true (by rw[List.length_map];omega))
      refine ⟨_,_,_,Es',rfl,s5,hp4,tAll,hnm,?_,hEp4,hEl4⟩
      have ef:Li.cnt m (Li.goF none (all.take i))=Li.cnt m (Li.goF none (all.take (i+1))):=by
       funext t p'
       rw[step,hnew t p']
       by_cases qq:t=e.1∧p'=e.2.1
       ·rw[if_neg (fun w=>z (by rw[qq.1,qq.2] at w;omega))]
       ·rw[if_neg (fun w=>qq ⟨by rw[e1];exact w.1.symm,by rw[e2];exact w.2.1.symm⟩)]
      rw[← ef]
      exact hE4
    refine ⟨F,b,.ref r,_,tpK x.tick x.player,rfl,rfl,hE3.d,hb3,hEs,fun v ev=>?_,fun ev=>?_⟩
    ·rcases Z1x Es x.tick x.player with ⟨e,he,e1,e2⟩ | hno
     ·rw[← e1,← e2,Z6f hE3.kd he] at ev
      cases ev
      exact fin H3 Es e (s2.trans s4) (sB _ _ hp2) (fun _ _ e=>e) hE3 hEp (by omega) he e1 e2
     ·rw[Zhf hno] at ev
      cases ev
    ·rcases Z1x Es x.tick x.player with ⟨e,he,e1,e2⟩ | hno
     ·rw[← e1,← e2,Z6f hE3.kd he] at ev
      cases ev
     ·have hEn:=hE3.new hno hr3 hrE
      have keepD:∀ b o,H3 b=some o→(∀ kvs,o≠.dT kvs)→upd H3 F (.dT ((Es.map fun e=>(tpK e.1 e.2.1,V.ref e.2.2))++[(tpK x.tick x.player,.ref r)])) b=some o:=fun b o e hne=>by rw[Z8 (ne_of e hE3.d (hne _))];exact e
      refine fin _ (Es++[(x.tick,x.player,r)]) (x.tick,x.player,r) (fun b o eb=>?_) (keepD _ _ (sB _ _ hp2) (fun _ z=>nomatch z)) (fun b xs e=>keepD _ _ e (fun _ z=>nomatch z)) hEn (fun e he=>?_) (by rw[List.length_append,List.length_singleton];omega) (List.mem_append_right _ (List.mem_singleton.mpr rfl)) rfl rfl
      ·rw[Z8 (Z6 eb hF)];exact s4 _ _ (s2 _ _ eb)
      ·rcases List.mem_append.mp he with he | he
       ·exact hEp e he
       ·have:e=(x.tick,x.player,r):=by simpa using he
        rw[this]
        exact ⟨hrp,((s2.trans sN).trans (Same.new hb)).free hr0⟩
  ·rintro σ H1 ⟨nv,v4,v5,Es,rfl,s2,hpl,ht,hnv,hE,hEp,hEl⟩
   rw[List.length_map,hlo,List.take_length,Li.Zfs ho] at hE
   refine ⟨_,rfl,k H1 F s2 hF (hE.ct fun t p=>?_) fun kvs hkv kk u hu=>?_⟩
   ·have:=Li.Z8q m (Vbwsaf.firsts all) t p
    omega
   ·rw[hE.d] at hkv
    cases hkv
    obtain ⟨e,he,e2⟩:=List.mem_map.mp (Zgf hu)
    injection e2 with _ e2
    exact ⟨e.2.2,e2.symm,(hEp e he).2⟩
end
end Pr
end
section
namespace Pr
open PySem PySem.Spec PyProof.Rows L2
open Vbwsaf (Input Deed Stay Window Cells)
structure Ad where
 ls:Addr
 dk:Addr
 dl:Addr
 dc:Addr
 b:Addr
 c:Addr
 ds:Addr
noncomputable def seF (v:Window Cells) (a:Ad):List (Str×V):=[("window",.int (v.rules.open_:Int)),("ahead",.int (v.rules.ahead:Int)),("most",.int (v.rules.most:Int)),("held",.int (v.rules.hold:Int)),("every",.int (v.rules.every:Int)),("stays",.ref a.ls),("kept",.ref a.dk),("late",.ref a.dl),("counts",.ref a.dc),
 ("made",.int (v.now:Int)),("settled",.int (v.settled:Int)),("beginning",.ref a.b),("cells",.ref a.c),("snapshots",.ref a.ds)]
noncomputable def res (H:Hp) (M:List Addr):Hp:=fun a=>if a∈M then none else H a
theorem Z0r (H:Hp) (M:List Addr):Same (res H M) H:=fun b o e=>by
 unfold res at e
 split at e
 ·cases e
 ·exact e
theorem Y3 {H:Hp} {M:List Addr} {b:Addr} {o:HO} (h:H b=some o) (hb:b ∉ M):res H M b=some o:=by unfold res;rw[if_neg hb];exact h
theorem Uc {H:Hp} {M:List Addr} {b:Addr} {o:HO} (h:res H M b=some o):H b=some o∧b ∉ M:=by
 unfold res at h
 split at h
 ·cases h
 ·exact ⟨h,by assumption⟩
theorem Z04 {H:Hp} {M:List Addr} {b:Addr} {o:HO} (hb:b∈M):res (upd H b o) M=res H M:=by
 funext c
 unfold res
 by_cases h:c∈M
 ·rw[if_pos h,if_pos h]
 ·rw[if_neg h,if_neg h,Z8 (fun e=>h (by rw[e];exact hb))]
theorem Z3v {H H':Hp} {M:List Addr} (s:Same H H'):Same (res H M) (res H' M):=fun b o e=>by
 obtain ⟨h1,h2⟩:=Uc e
 exact Y3 (s _ _ h1) h2
noncomputable def snK (cs:List Addr) (ss:List (Nat×Cells)):List (Key×V):=List.zipWith (fun b s=>(Sum.inl (s.1:Int),V.ref b)) cs ss
noncomputable def ltK (late:List (List Nat)):List (List Key×V):=late.reverse.map fun l=>(l.map (fun (n:Nat)=>(Sum.inl (n:Int):Key)),V.bl true)
abbrev mset (p:Addr) (a:Ad) (sas:List Addr):List Addr:=p::a.ls::a.dk::a.dl::a.ds::sas
structure SeAt (C CS:Addr) (H:Hp) (p:Addr) (a:Ad) (sas:List Addr) (v:Window Cells) (late:List (List Nat)) (seed:Int):Prop where
 ob:∃ dx,H p=some (.ins C dx (seF v a))
 st:StaysAt CS H a.ls sas v.stays
 kp:∃ ks:List Input,H a.dk=some (.dN (ks.map fun x=>(inK x,.bl true)))∧v.all.Perm ks
 lt:H a.dl=some (.dT (ltK late))
 sn:∃ cs:List Addr,H a.ds=some (.dK (snK cs v.snaps))∧Paired (fun (b:Addr) (s:Nat×Cells)=>LI (res H (mset p a sas)) b s.2) cs v.snaps
 ct:CtAt (res H (mset p a sas)) a.dc (Li.cnt v.rules.most (Vbwsaf.firsts v.all))
 b0:LI (res H (mset p a sas)) a.b (Vbwsaf.first seed)
 cl:LI (res H (mset p a sas)) a.c v.head
theorem SeAt.same {C CS:Addr} {H H':Hp} {p:Addr} {a:Ad} {sas:List Addr} {v:Window Cells} {late:List (List Nat)} {seed:Int} (h:SeAt C CS H p a sas v late seed) (s:Same H H'):SeAt C CS H' p a sas v late seed:=by
 obtain ⟨dx,h1⟩:=h.ob
 obtain ⟨ks,h2,h3⟩:=h.kp
 obtain ⟨cs,h4,h5⟩:=h.sn
 have m:=Z3v (M:=mset p a sas) s
 exact ⟨⟨dx,s _ _ h1⟩,h.st.same s,⟨ks,s _ _ h2,h3⟩,s _ _ h.lt,⟨cs,s _ _ h4,Paired.mapP h5 fun _ _ r=>m _ _ r⟩,h.ct.same m,m _ _ h.b0,m _ _ h.cl⟩
structure W0 (v:Window Cells):Prop where
 o1:1≤v.rules.open_∧v.rules.open_≤16
 ah:v.rules.ahead≤16
 mo:1≤v.rules.most∧v.rules.most≤5
 ho:v.rules.hold≤5
 ev:1≤v.rules.every∧v.rules.every≤8
 ord:Li.Ord v.all
 al:v.all.length≤100
 inb:∀ x∈v.all,x.player≤3∧1≤x.tick∧x.data.length≤4
 sl:v.stays.length≤40
 hd:CB v.head
 sc:∀ s∈v.snaps,CB s.2
theorem dC_cnt (m hold:Nat) (ss:List Stay) (fs:List Input) (t p:Nat):dC (Li.cnt m fs) ss hold t p=Li.dOf m hold ss fs t p:=by
 unfold dC Li.dOf latD
 cases e:Li.cnt m fs t p with
 | nil=>
  rw[Zhn]
  by_cases hb:Li.isThere ss p t=true
  ·rw[if_pos rfl,if_pos hb];rw[if_neg (by show ¬ (true=false);decide)];all_goals (try rw[if_pos hb]);all_goals (cases Vbwsaf.lately m fs p hold t <;> rfl)
  ·rw[if_pos rfl,if_neg hb];rw[if_neg (by show ¬ (true=false);decide)];all_goals rw[if_neg hb]
 | cons x l=>
  rw[if_neg (by simp),if_pos (by simp)]
theorem Z8p (v:Window Cells) (t:Nat):(List.range 4).flatMap (dC (Li.cnt v.rules.most (Vbwsaf.firsts v.all)) v.stays v.rules.hold t)=Vbwsaf.deedsIn v t:=by
 unfold Vbwsaf.deedsIn
 show _=Vbwsaf.deeds _ _ _ _ _
 rw[Li.Zh9]
 congr 1
 funext p
 exact dC_cnt _ _ _ _ _ _
theorem Zby {c:Nat→Nat→List Input} {p:Nat}:∀ {n t:Nat} {x:Input},lat c p n t=some x→∃ t',x∈c t' p
 | 0,t,x,h=>by cases h
 | n+1,t,x,h=>by
  have h:(if t≤1 then none else match (c (t-1) p).getLast? with | some x=>some x | none=>lat c p n (t-1))=some x:=h
  split at h
  ·cases h
  ·split at h
   ·rename_i y hy
    cases h
    exact ⟨t-1,List.mem_of_getLast? hy⟩
   ·exact Zby h
theorem Zcb {v:Window Cells} {t:Nat} {d:Deed} (h:d∈Vbwsaf.deedsIn v t):d.input∈v.all:=by
 rw[← Z8p] at h
 obtain ⟨p,_,h⟩:=List.mem_flatMap.mp h
 have sub:∀ {t' x},x∈Li.cnt v.rules.most (Vbwsaf.firsts v.all) t' p→x∈v.all:=fun h=>Li.Z32.subset (Li.cnt_mem h).1
 unfold dC latD at h
 split at h
 ·split at h
  ·split at h
   ·rename_i x hx
    have:d=⟨x,true⟩:=by simpa using h
    subst this
    obtain ⟨t',ht'⟩:=Zby hx
    exact sub ht'
   ·cases h
  ·cases h
 ·obtain ⟨x,hx,rfl⟩:=List.mem_map.mp h
  exact sub hx
theorem Zfy (v:Window Cells) (hm:v.rules.most≤5) (t:Nat):(Vbwsaf.deedsIn v t).length≤20:=by
 rw[← Z8p]
 have hb:∀ p,(dC (Li.cnt v.rules.most (Vbwsaf.firsts v.all)) v.stays v.rules.hold t p).length≤5:=by
  intro p
  have:=Li.Z8q v.rules.most (Vbwsaf.firsts v.all) t p
  unfold dC latD
  repeat' split
  ·show 1≤5;decide
  ·show 0≤5;decide
  ·show 0≤5;decide
  ·rw[List.length_map];omega
 have:=Z2c _ 5 hb 4
 omega
section
variable {P:Program} {w:World} {K:PySem.W.Frag} {mg:Str→Option Value} {base:Heap}
abbrev Se (T:TX K mg):=SeAt T.cSession T.cStay
theorem Se.cnt {C CS:Addr} {H:Hp} {p:Addr} {a:Ad} {sas:List Addr} {v:Window Cells} {late:List (List Nat)} {seed:Int} (h:SeAt C CS H p a sas v late seed):CtAt H a.dc (Li.cnt v.rules.most (Vbwsaf.firsts v.all)):=h.ct.same (Z0r _ _)
def Z3l (T:TX K mg):Sp:=fun vs H Q _=>∃ (p:Addr) (a:Ad) (sas:List Addr) (v:Window Cells) (late:List (List Nat)) (seed:Int) (t:Nat),vs=[.ref p,.int (t:Int)]∧Se T H p a sas v late seed∧v.stays.length≤1000∧v.rules.hold≤1000∧1≤t∧t≤10000 ∧
 ∀ H' q,Same H H'→H q=none→Lof DeAt H' q (Vbwsaf.deedsIn v t)→Q (.ref q) H'
theorem Xk (T:TX K mg):FnOk P w K mg base CX0 4 T.Y0.f T.Y0.d ["self", "tick"] (Z3l T):=by
 refine T.Y0.F.ok Z3p (fun vs H Q E h=>?_) (fun cdv A outer s H vs Q E hr h=>?_)
 ·obtain ⟨p,a,sas,v,late,seed,t,rfl,_⟩:=h
  rfl
 ·obtain ⟨p,a,sas,v,late,seed,t,rfl,hS,h1,h2,h3,h4,k⟩:=h
  refine ⟨_,(Z5 (Zc (Zf (Zat T) (hr.mono (by decide)) rfl T.deeds_of.m T.deeds_of.F.kp T.deeds_of.b .nil pass0 (Z0 (Za (pv 0) rfl) (Z0 (Za (pv 0) rfl) (Z0 (Za (pv 0) rfl) (Z0 (pv 1) Z3))))))),?_⟩
  obtain ⟨dx,ho⟩:=hS.ob
  refine ⟨_,rfl,p,_,dx,_,_,rfl,ho,T.Z1,T.Yw,rfl,_,rfl,p,_,dx,_,_,rfl,ho,T.Z1,T.Zt,rfl,_,rfl,p,_,dx,_,_,rfl,ho,T.Z1,T.Z2j,rfl,_,rfl,?_⟩
  refine ⟨a.dc,a.ls,sas,v.stays,_,v.rules.hold,t,rfl,Se.cnt hS,hS.st,h1,h3,h4,h2,fun H' q s1 hn hl=>k H' q s1 hn ?_⟩
  rw[← Z8p]
  exact hl
def Wt (T:TX K mg):Sp:=fun vs H Q _=>∃ (p:Addr) (a:Ad) (sas:List Addr) (v:Window Cells) (late:List (List Nat)) (seed:Int) (q:Addr) (x:Input),vs=[.ref p,.ref q]∧Se T H p a sas v late seed∧InAt H q x ∧
 ∀ H',Same H H'→Q (.bl ((Li.cnt v.rules.most (Vbwsaf.firsts v.all) x.tick x.player).any fun y=>Vbwsaf.alike x y)) H'
theorem J9 (T:TX K mg):FnOk P w K mg base CX0 2 T.Zz.f T.Zz.d ["self", "one"] (Wt T):=by
 refine T.Zz.F.ok Wz (fun vs H Q E h=>?_) (fun cdv A outer s H vs Q E hr h=>?_)
 ·obtain ⟨p,a,sas,v,late,seed,q,x,rfl,_⟩:=h
  rfl
 ·obtain ⟨p,a,sas,v,late,seed,q,x,rfl,hS,hq,k⟩:=h
  obtain ⟨t_PLAYER,Xd⟩:=T.Xd
  obtain ⟨t_TICK,Jn⟩:=T.Jn
  have hu1:=Z9m hr
  refine ⟨_,(Z5 (Zc (Z4t (op_inN hu1) (pv 1) (Zf (Xh T) (hr.mono (by decide)) rfl T.counting_of.m T.counting_of.F.kp T.counting_of.b .nil pass0 (Z0 (Za (pv 0) rfl) (Z0 (pe_ix Yg (pv 1) (Zd (v:=.int 3) rfl Jn ⟨t_TICK,rfl⟩) (fun _ _=>rfl)) (Z0 (pe_ix Yg (pv 1) (Zd (v:=.int 0) rfl Xd ⟨t_PLAYER,rfl⟩) (fun _ _=>rfl)) Z3)))) rfl))),?_⟩
  obtain ⟨dx,ho⟩:=hS.ob
  obtain ⟨dq,hq1,hq2⟩:=id hq
  refine ⟨_,rfl,_,rfl,p,_,dx,_,_,rfl,ho,T.Z1,T.Yw,rfl,_,rfl,q,_,_,_,rfl,rfl,SqT.of hq1,Zl (j:=3) rfl,_,rfl,q,_,_,_,rfl,rfl,SqT.of hq1,Zl (j:=0) rfl,?_⟩
  refine ⟨a.dc,_,x.tick,x.player,rfl,Se.cnt hS,fun H' l s1 ⟨as,hl1,hl2⟩=>?_⟩
  refine ⟨l,q,as,(Li.cnt v.rules.most (Vbwsaf.firsts v.all) x.tick x.player).map inK,inK x,rfl,rfl,SqL.of hl1,?_,hq.same s1,?_⟩
  ·have go:∀ {as:List Addr} {xs:List Input},Paired (InAt H') as xs→Paired (fun k b=>NAt H' k b) (xs.map inK) as:=by
    intro as xs h
    induction h with
    | nil=>exact .nil
    | cons r t ih=>exact .cons r ih
   exact go hl2
  ·have e:((Li.cnt v.rules.most (Vbwsaf.firsts v.all) x.tick x.player).map inK).any (fun j=>decide (j=inK x))=(Li.cnt v.rules.most (Vbwsaf.firsts v.all) x.tick x.player).any fun y=>Vbwsaf.alike x y:=by
    rw[List.any_map]
    congr 1
    funext y
    show decide (inK y=inK x)=Vbwsaf.alike x y
    rw[Bool.eq_iff_iff]
    rw[Li.U6,decide_eq_true_eq]
    exact ⟨fun h=>(Zfo h).symm,fun e=>by rw[e]⟩
   rw[e]
   exact k H' s1
end
end Pr
end
section
namespace Pr
open PySem PySem.Spec PyProof.Rows L2
open Vbwsaf (Input Deed Stay Window Cells)
theorem Zfd {J:It} {n:Nat} {g:TG} {tt:TT} {te:TE} {vs:List Nat} {σ:L2.St} {H1:Hp} {D:Addr} {Qd:Hp→Prop} (Pv:Nat→Hp→Prop) (h0:Pv 0 (upd H1 D (.lst []))) (hgo:∀ i H,i<n→Pv i H→J.go i H) (hst:∀ H,Pv n H→J.stop n H)
  (hs:∀ i H x H',i<n→Pv i H→J.yld i H x H'→g x (wipe σ vs) H' fun σ2 H2=>wipe σ2 vs=wipe σ vs∧tt σ2 H2 fun b H3=>
   if b=true then te σ2 H3 fun y H4=>∃ acc,H4 D=some (.lst acc)∧acc.length<sizeLine∧Pv (i+1) (upd H4 D (.lst (acc++[y]))) else Pv (i+1) H3) (hd:∀ H,Pv n H→Qd H) :
  ∃ W:Nat→Nat→Hp→Prop,(∃ m,W 0 m (upd H1 D (.lst [])))∧∀ i m H,W i m H →
   (J.stop i H∧Qd H)∨(J.go i H∧∃ Nx:Hp→Prop,(∀ H',Nx H'→∃ m',m'<m∧W (i+1) m' H')∧∀ x H',J.yld i H x H'→g x (wipe σ vs) H' fun σ2 H2=>wipe σ2 vs=wipe σ vs∧tt σ2 H2 fun b H3=>
    if b=true then te σ2 H3 fun y H4=>∃ acc,H4 D=some (.lst acc)∧acc.length<sizeLine∧Nx (upd H4 D (.lst (acc++[y]))) else Nx H3):=by
 refine ⟨fun i m H=>m=n-i∧i≤n∧Pv i H,⟨n,by simp,Nat.zero_le _,h0⟩,?_⟩
 rintro i m H ⟨rfl,hi,p⟩
 by_cases e:i=n
 ·subst e
  exact .inl ⟨hst _ p,hd _ p⟩
 ·have hlt:i<n:=by omega
  refine .inr ⟨hgo _ _ hlt p,fun H'=>Pv (i+1) H',fun H' q=>⟨n-(i+1),by omega,rfl,by omega,q⟩,fun x H' y=>hs i H x H' hlt p y⟩
theorem Z1h {H H':Hp} {d:Addr} {u o:HO} (h:H d=some u) (s:Same (upd H d o) H'):Same H (upd H' d u):=fun b x e=>by
 by_cases hb:b=d
 ·subst hb
  rw[Z2,← h,e]
 ·rw[Z8 hb]
  exact s _ _ (by rw[Z8 hb];exact e)
theorem Wa {H H':Hp} {D:Addr} {o:HO} (s:Same H H') (h:H D=none):Same H (upd H' D o):=fun b x e=>by rw[Z8 (Z6 e h)];exact s b x e
theorem Zm {H:Hp} {d b:Addr} {o x:HO} (h:H b=some x) (hb:b≠d):upd H d o b=some x:=by rw[Z8 hb];exact h
abbrev Inc (ss:List (Nat×Cells)):Prop:=ss.Pairwise fun a b=>a.1<b.1
theorem Zh2 {ss:List (Nat×Cells)} (h:Inc ss) {x:Nat×Cells} (e:ss.getLast?=some x):∀ y∈ss,y=x∨y.1<x.1:=by
 intro y hy
 obtain ⟨l,rfl⟩:=List.getLast?_eq_some_iff.mp e
 rcases List.mem_append.mp hy with hy | hy
 ·exact .inr ((List.pairwise_append.mp h).2.2 y hy x (by simp))
 ·exact .inl (by simpa using hy)
theorem Z7s {v:Window Cells} {t k:Nat} {w:Cells} (h:Vbwsaf.snapFor v t=some (k,w)):(k,w)∈v.snaps∧k≤t:=by
 have:=List.mem_of_getLast? h
 simpa using this
theorem Zbe {v:Window Cells} {t k:Nat} {w:Cells} (ho:Inc v.snaps) (h:Vbwsaf.snapFor v t=some (k,w)) {s:Nat×Cells} (hs:s∈v.snaps) (ht:s.1≤t):s=(k,w)∨s.1<k:=
 Zh2 (ho.filter _) h s (by simp[hs,ht])
theorem Z4a {cs:List Addr} {ss:List (Nat×Cells)} {R:Addr→Nat×Cells→Prop} (h:Paired R cs ss):(snK cs ss).length=ss.length:=by
 have:=Paired.length h
 unfold snK
 rw[List.length_zipWith]
 omega
theorem sn_at {cs:List Addr} {ss:List (Nat×Cells)} {i:Nat} {k:Key} {u:V} (h:(snK cs ss)[i]?=some (k,u)):∃ b s,cs[i]?=some b∧ss[i]?=some s∧k=Sum.inl (s.1:Int)∧u=.ref b:=by
 unfold snK at h
 rw[List.getElem?_zipWith] at h
 cases e1:cs[i]? with
 | none=>rw[e1] at h;cases h
 | some b=>
  cases e2:ss[i]? with
  | none=>rw[e1,e2] at h;cases h
  | some s=>
   rw[e1,e2] at h
   cases h
   exact ⟨b,s,rfl,rfl,rfl,rfl⟩
section
variable {P:Program} {w:World} {K:PySem.W.Frag} {mg:Str→Option Value} {base:Heap}
theorem Se.p_ds {C CS:Addr} {H:Hp} {p:Addr} {a:Ad} {sas:List Addr} {v:Window Cells} {late:List (List Nat)} {seed:Int} (h:SeAt C CS H p a sas v late seed):p≠a.ds:=by
 obtain ⟨dx,h1⟩:=h.ob
 obtain ⟨cs,h4,h5⟩:=h.sn
 exact ne_of h1 h4 (fun z=>nomatch z)
def U7 (T:TX K mg):Sp:=fun vs H Q _=>∃ (p:Addr) (a:Ad) (sas:List Addr) (v:Window Cells) (late:List (List Nat)) (seed:Int) (t k:Nat) (w:Cells),vs=[.ref p,.int (t:Int)]∧Se T H p a sas v late seed∧Inc v.snaps∧v.snaps.length≤1000∧Vbwsaf.snapFor v t=some (k,w) ∧
 ∀ H',Same H H'→Q (.int (k:Int)) H'
theorem Yj (T:TX K mg):FnOk P w K mg base CX0 1 T.Zg.f T.Zg.d ["self", "tick"] (U7 T):=by
 refine T.Zg.F.ok Yi (fun vs H Q E h=>?_) (fun cdv A outer s H vs Q E hr h=>?_)
 ·obtain ⟨p,a,sas,v,late,seed,t,k0,w0,rfl,_⟩:=h
  rfl
 ·obtain ⟨p,a,sas,v,late,seed,t,k0,w0,rfl,hS,hinc,hlen,hsf,k⟩:=h
  refine ⟨_,(Z5 (Zc (Zu (cr_max rfl) rfl T.b_max Zcg (Z0 (Zan (pe_lc (own:=[("kept",2)]) rfl Yi.nd (pi_keys (Za (pv 0) rfl)) (Xw rfl) (fun _ _ _ _ _=>(Y4 (i:=2) Yi.nd rfl (Or.inl rfl))) (fun _ _ _ _ _=>(Z83 (Zr op_le (pv 2) (pv 1) (Y8 _)))) (fun _ _ _ _ _=>(pv 2)))) Z3)))),?_⟩
  obtain ⟨dx,ho⟩:=hS.ob
  obtain ⟨cs,hd,hp⟩:=hS.sn
  refine ⟨a.ds,_,hd,trivial,fun od=>?_⟩
  have ho':=Zm (o:=.frz od (.dK (snK cs v.snaps))) ho (Se.p_ds hS)
  refine ⟨_,rfl,p,_,dx,_,_,rfl,ho',T.Z1,T.Zo,rfl,a.ds,od,rfl,.inl ⟨_,Z2,fun D hD=>?_⟩⟩
  refine Zfd (J:=Itk a.ds od (snK cs v.snaps)) (n:=v.snaps.length) (fun i H'=>Same (upd H a.ds (.frz od (.dK (snK cs v.snaps)))) H'∧H' D=some (.lst (((v.snaps.take i).filter fun s=>decide (s.1≤t)).map fun s=>V.int (s.1:Int)))) ⟨Same.new hD,Z2⟩ (fun i H' hi q=>⟨q.1 _ _ Z2,by rw[Z4a hp];exact hi⟩) (fun H' q=>⟨q.1 _ _ Z2,by rw[Z4a hp];exact Nat.le_refl _⟩) ?_ ?_
  ·rintro i H1 x H2 hi ⟨s1,h1⟩ ⟨rfl,kk,u,hku,rfl⟩
   obtain ⟨b,s,_,hs,rfl,rfl⟩:=sn_at hku
   refine ⟨rfl,_,rfl,_,rfl,_,_,rfl,rfl,_,rfl,?_⟩
   refine ite2 (fun z=>?_) (fun z=>?_)
   ·have z:s.1≤t:=by have:=of_decide_eq_true z;omega
    refine ⟨_,rfl,_,h1,?_,Wa s1 hD,?_⟩
    ·have:=List.length_filter_le (fun s:Nat×Cells=>decide (s.1≤t)) (v.snaps.take i)
     rw[List.length_take] at this
     rw[List.length_map,sizeLine_eq];omega
    ·rw[Z2,J4 _ hs,if_pos (decide_eq_true z),List.map_append];rfl
   ·have z:¬ s.1≤t:=fun e=>z (decide_eq_true (by omega))
    refine ⟨s1,?_⟩
    rw[J4 _ hs,if_neg (fun e=>z (of_decide_eq_true e)),List.append_nil]
    exact h1
  ·rintro H1 ⟨s1,h1⟩
   rw[List.take_length] at h1
   refine ⟨s1 _ _ Z2,?_⟩
   have s2:=Z1h hd s1
   have hDd:D≠a.ds:=fun e=>by rw[e,Z2] at hD;cases hD
   refine ⟨D,((v.snaps.filter fun s=>decide (s.1≤t)).map fun s=>(s.1:Int)),rfl,SqL.of (by rw[Z8 hDd,h1,List.map_map];rfl),?_,fun m hm hmx=>?_⟩
   ·rw[List.length_map]
    exact List.length_pos_of_mem (List.mem_of_getLast? hsf)
   ·have e:m=(k0:Int):=by
     have h2:=hmx (k0:Int) (List.mem_map.mpr ⟨(k0,w0),List.mem_of_getLast? hsf,rfl⟩)
     obtain ⟨s,hs,rfl⟩:=List.mem_map.mp hm
     have hs:=List.mem_filter.mp hs
     rcases Zbe hinc hsf hs.1 (of_decide_eq_true hs.2) with e | e
     ·rw[e]
     ·omega
    rw[e]
    exact k _ s2
end
end Pr
end
section
namespace Pr
open PySem PySem.Spec PyProof.Rows L2
open Vbwsaf (Input Deed Stay Window Cells)
section
variable {P:Program} {w:World} {K:PySem.W.Frag} {mg:Str→Option Value} {base:Heap}
def Ug (T:TX K mg):Sp:=fun vs H Q _=>∃ (p:Addr) (a:Ad) (sas:List Addr) (v:Window Cells) (late:List (List Nat)) (seed:Int),vs=[.ref p]∧Se T H p a sas v late seed∧0<v.snaps.length ∧
 ∀ H' k,Same H H'→(∃ w,(k,w)∈v.snaps)→(∀ s∈v.snaps,k≤s.1)→Q (.int (k:Int)) H'
theorem Uo (T:TX K mg):FnOk P w K mg base CX0 1 T.Y6.f T.Y6.d ["self"] (Ug T):=by
 refine T.Y6.F.ok Uk (fun vs H Q E h=>?_) (fun cdv A outer s H vs Q E hr h=>?_)
 ·obtain ⟨p,a,sas,v,late,seed,rfl,_⟩:=h
  rfl
 ·obtain ⟨p,a,sas,v,late,seed,rfl,hS,hlen,k⟩:=h
  refine ⟨_,(Z5 (Zc (Zu (cr_min rfl) rfl T.b_min bt_min (Z0 (Z06 (Zdr rfl) rfl T.b_list Zg6 (Z0 (Za (pv 0) rfl) Z3)) Z3)))),?_⟩
  obtain ⟨dx,ho⟩:=hS.ob
  obtain ⟨cs,hd,hp⟩:=hS.sn
  refine ⟨_,rfl,p,_,dx,_,_,rfl,ho,T.Z1,T.Zo,rfl,a.ds,_,rfl,hd,fun D hD=>?_⟩
  have e:(snK cs v.snaps).map (fun kv=>kV kv.1)=(v.snaps.map fun s=>(s.1:Int)).map V.int:=by
   refine List.ext_getElem? fun i=>?_
   rw[List.getElem?_map,List.map_map,List.getElem?_map]
   have hl:=Z4a hp
   cases e1:(snK cs v.snaps)[i]? with
   | none=>
    have:=List.getElem?_eq_none_iff.mp e1
    rw[List.getElem?_eq_none (by omega)]
    rfl
   | some ku=>
    obtain ⟨kk,u⟩:=ku
    obtain ⟨b,s,_,hs,rfl,rfl⟩:=sn_at e1
    rw[hs]
    rfl
  refine ⟨D,v.snaps.map fun s=>(s.1:Int),rfl,SqL.of (by rw[Z2,e]),by rw[List.length_map];exact hlen,fun m hm hmn=>?_⟩
  obtain ⟨s,hs,rfl⟩:=List.mem_map.mp hm
  refine k _ s.1 (Same.new hD) ⟨s.2,hs⟩ fun s' hs'=>?_
  have:=hmn (s'.1:Int) (List.mem_map.mpr ⟨s',hs',rfl⟩)
  omega
theorem lof_res {H:Hp} {q D:Addr} {ds:List Deed} {xs:List V} (h:Lof DeAt H q ds) (hD:H D=some (.lst xs)) (hq:q≠D):Lof DeAt (res H [D]) q ds:=by
 obtain ⟨as,h1,h2⟩:=h
 have tp:∀ {b ys},H b=some (.tup ys)→res H [D] b=some (.tup ys):=fun e=>Y3 e (by simpa using ne_of e hD (fun z=>nomatch z))
 refine ⟨as,Y3 h1 (by simpa using hq),Paired.mapP h2 fun _ _ r=>?_⟩
 obtain ⟨b,r1,d,r2,r3⟩:=r
 exact ⟨b,tp r1,d,tp r2,tp r3⟩
def Jp (T:TX K mg):Sp:=fun vs H Q _=>∃ (p:Addr) (a:Ad) (sas:List Addr) (v:Window Cells) (late:List (List Nat)) (seed:Int),vs=[.ref p]∧Se T H p a sas v late seed∧v.stays.length≤1000∧v.rules.hold≤1000∧v.settled≤v.now∧v.now≤1000 ∧
 ∀ H' q,Same H H'→Lof (Lof DeAt) H' q ((List.range (v.now-v.settled)).map fun i=>Vbwsaf.deedsIn v (v.settled+1+i))→Q (.ref q) H'
theorem X7 (T:TX K mg):FnOk P w K mg base CX0 5 T.Zk.f T.Zk.d ["self"] (Jp T):=by
 refine T.Zk.F.ok Ye (fun vs H Q E h=>?_) (fun cdv A outer s H vs Q E hr h=>?_)
 ·obtain ⟨p,a,sas,v,late,seed,rfl,_⟩:=h
  rfl
 ·obtain ⟨p,a,sas,v,late,seed,rfl,hS,h1,h2,h3,h4,k⟩:=h
  refine ⟨_,(Z5 (Zc (pe_lc (own:=[("tick",1)]) rfl Ye.nd (Z4r rfl T.b_range (Z0 (pe_op Yx (Za (pv 0) rfl) Z9) (Z0 (pe_op Yx (Za (pv 0) rfl) Z9) Z3))) (Xw rfl) (fun _ _ _ _ _=>(Y4 (i:=1) Ye.nd rfl (Or.inl rfl))) (fun _ _ _ _ _=>Z1j) (fun _ _ _ _ _=>(Yf (pv 0) T.Z1 T.Y0.M (Xk T) (hr.mono (by decide)) T.Y0.b .nil pass0 (Z0 (pv 1) Z3)))))),?_⟩
  obtain ⟨dx,ho⟩:=hS.ob
  refine ⟨_,rfl,p,_,dx,_,_,rfl,ho,T.Z1,T.Zn,rfl,_,_,rfl,rfl,_,rfl,p,_,dx,_,_,rfl,ho,T.Z1,T.Zh,rfl,_,_,rfl,rfl,_,_,rfl,(by omega),fun D hD=>?_⟩
  have en:((v.now:Int)+1-((v.settled:Int)+1)).toNat=v.now-v.settled:=by omega
  rw[en]
  refine Z8k (lo:=(v.settled:Int)+1) (n:=v.now-v.settled) (fun i H'=>Same H H'∧∃ as:List Addr,H' D=some (.lst (as.map V.ref))∧Paired (Lof DeAt (res H' [D])) as ((List.range i).map fun i=>Vbwsaf.deedsIn v (v.settled+1+i))) ⟨Same.new hD,[],Z2,.nil⟩ ?_ ?_
  ·rintro i H1 hi ⟨s1,as,h5,h6⟩
   refine ⟨rfl,?_⟩
   simp only[tYes,if_true]
   refine ⟨_,rfl,p,dx,_,rfl,s1 _ _ ho,rfl,_,rfl,?_⟩
   refine ⟨p,a,sas,v,late,seed,v.settled+1+i,(by rw[show ((v.settled:Int)+1+(i:Int))=((v.settled+1+i:Nat):Int) by omega];rfl),hS.same s1,h1,h2,by omega,by omega,fun H2 q s2 hn hq=>?_⟩
   have la:as.length=i:=by rw[Paired.length h6,List.length_map,List.length_range]
   have hD2:=s2 _ _ h5
   refine ⟨_,hD2,by rw[List.length_map,sizeLine_eq];omega,Wa (s1.trans s2) hD,as++[q],by rw[Z2,List.map_append];rfl,?_⟩
   rw[List.range_succ,List.map_append]
   have hqD:q≠D:=fun e=>by rw[e,h5] at hn;cases hn
   rw[Z04 (by simp)]
   exact Xq (Paired.mapP h6 fun _ _ r=>Lof.same (R:=DeAt) (fun h s=>DeAt.same h s) r (Z3v s2)) (lof_res hq hD2 hqD)
  ·rintro H1 ⟨s1,as,h5,h6⟩
   exact k _ D s1 ⟨as,h5,Paired.mapP h6 fun _ _ r=>Lof.same (R:=DeAt) (fun h s=>DeAt.same h s) r (Z0r _ _)⟩
def Z1e (T:TX K mg):Sp:=fun vs H Q _=>∃ (p:Addr) (a:Ad) (sas:List Addr) (v:Window Cells) (late:List (List Nat)) (seed:Int),vs=[.ref p]∧Se T H p a sas v late seed∧v.stays.length≤1000 ∧
 ∀ H',Same H H'→Q (.bl (Vbwsaf.ready v)) H'
theorem Z9c (v:Window Cells):Vbwsaf.ready v=(List.range 4).all fun p=>!(Li.isThere v.stays p (v.now+1)&&(Li.cnt v.rules.most (Vbwsaf.firsts v.all) (v.now+1) p).isEmpty):=by
 unfold Vbwsaf.ready Vbwsaf.playersAt
 rw[List.all_filter]
 show (List.range 4).all _=_
 congr 1
 funext p
 show (!(Li.isThere v.stays p (v.now+1))||_)=_
 have e:(Vbwsaf.countsFor v.rules.most v.all (v.now+1)).any (fun x=>x.player==p)=!(Li.cnt v.rules.most (Vbwsaf.firsts v.all) (v.now+1) p).isEmpty:=by
  rw[← Li.Z2e]
  unfold Vbwsaf.countsFor
  generalize Vbwsaf.countsOf v.rules.most (Vbwsaf.firsts v.all) (v.now+1)=l
  induction l with
  | nil=>rfl
  | cons x l ih=>
   rw[List.any_cons,List.filter_cons,ih]
   cases x.player==p <;> rfl
 rw[e,← Bool.not_and]
theorem U1 (T:TX K mg):FnOk P w K mg base CX0 3 T.Ya.f T.Ya.d ["self"] (Z1e T):=by
 refine T.Ya.F.ok Xm (fun vs H Q E h=>?_) (fun cdv A outer s H vs Q E hr h=>?_)
 ·obtain ⟨p,a,sas,v,late,seed,rfl,_⟩:=h
  rfl
 ·obtain ⟨p,a,sas,v,late,seed,rfl,hS,h1,k⟩:=h
  obtain ⟨t_PLAYERS,Xs⟩:=T.Xs
  refine ⟨_,(Z4 (Zy (i:=1) Xm.nd rfl (Or.inl rfl) (pe_op Yx (Za (pv 0) rfl) Z9))
   (Z4 (Jy PassesOwn.never rfl (J8 rfl T.b_range (Z0 (Zd (v:=.int 4) rfl Xs ⟨t_PLAYERS,rfl⟩) Z3)) (Y4 (i:=2) Xm.nd rfl (Or.inl rfl)) (Z5 (ps_if (PW.pt (Zer (Z4q (Zf (Z4v T) (hr.mono (by decide)) rfl T.is_there.m T.is_there.F.kp T.is_there.b .nil pass0 (Z0 (Za (pv 0) rfl) (Z0 (pv 2) (Z0 (pv 1) Z3))))) (Zak (Zbn (Z84 (Zf (Xh T) (hr.mono (by decide)) rfl T.counting_of.m T.counting_of.F.kp T.counting_of.b .nil pass0 (Z0 (Za (pv 0) rfl) (Z0 (pv 1) (Z0 (pv 2) Z3)))) (fun _=>rfl)))))) (Z5 (Zc pe_bl)) Zp)))
   (Z5 (Zc pe_bl)))),?_⟩
  obtain ⟨dx,ho⟩:=hS.ob
  refine ⟨_,rfl,p,_,dx,_,_,rfl,ho,T.Z1,T.Zh,rfl,_,_,rfl,rfl,?_⟩
  refine ⟨4,rfl,by decide,by decide,Jb (lo:=0) (n:=4) (fun i σ H'=>∃ u:Option V,σ=[some (.ref p),some (.int ((v.now:Int)+1)),u]∧Same H H'∧∀ j,j<i→(Li.isThere v.stays j (v.now+1)&&(Li.cnt v.rules.most (Vbwsaf.firsts v.all) (v.now+1) j).isEmpty)=false)
   ⟨none,rfl,Same.refl H,fun j hj=>absurd hj (Nat.not_lt_zero _)⟩ ?_ ?_⟩
  ·rintro i σ H1 hi ⟨u,rfl,s1,hn⟩
   have next:(Li.isThere v.stays i (v.now+1)&&(Li.cnt v.rules.most (Vbwsaf.firsts v.all) (v.now+1) i).isEmpty)=false→∀ j,j<i+1→(Li.isThere v.stays j (v.now+1)&&(Li.cnt v.rules.most (Vbwsaf.firsts v.all) (v.now+1) j).isEmpty)=false:=by
    intro hf j hj
    by_cases hji:j<i
    ·exact hn j hji
    ·have:j=i:=by omega
     subst this
     exact hf
   have hS1:=hS.same s1
   have ho1:=s1 _ _ ho
   have ei:((v.now:Int)+1)=((v.now+1:Nat):Int):=by omega
   refine ⟨_,rfl,p,_,dx,_,_,rfl,ho1,T.Z1,T.Zt,rfl,_,rfl,_,rfl,a.ls,sas,v.stays,i,v.now+1,(by rw[ei,Int.zero_add];rfl),hS1.st,h1,fun H2 s2=>?_⟩
   refine ⟨_,rfl,?_⟩
   refine ite2 (fun z=>?_) (fun z=>?_)
   ·refine ⟨_,rfl,p,_,dx,_,_,rfl,s2 _ _ ho1,T.Z1,T.Yw,rfl,_,rfl,_,rfl,a.dc,_,v.now+1,i,(by rw[ei,Int.zero_add];rfl),Se.cnt (hS1.same s2),fun H3 l s3 ⟨as,hl1,hl2⟩=>?_⟩
    have la:=Paired.length hl2
    refine ⟨!(as.map V.ref).isEmpty,.inl ⟨_,SqL.of hl1,rfl⟩,?_⟩
    cases as with
    | nil=>
     refine iteT ?_
     have e0:Li.cnt v.rules.most (Vbwsaf.firsts v.all) (v.now+1) i=[]:=List.eq_nil_of_length_eq_zero la.symm
     have:Vbwsaf.ready v=false:=by
      rw[Z9c,List.all_eq_false]
      exact ⟨i,List.mem_range.mpr hi,by rw[z,e0];decide⟩
     have q:=k H3 ((s1.trans s2).trans s3)
     rw[this] at q
     exact q
    | cons b as=>
     refine iteF ⟨_,rfl,(s1.trans s2).trans s3,next ?_⟩
     cases e0:Li.cnt v.rules.most (Vbwsaf.firsts v.all) (v.now+1) i with
     | nil=>rw[e0] at la;cases la
     | cons x l=>exact Bool.and_false _
   ·exact iteF ⟨_,rfl,s1.trans s2,next (by rw[Bool.eq_false_iff.mpr z];rfl)⟩
  ·rintro σ H1 ⟨u,rfl,s1,hn⟩
   have:Vbwsaf.ready v=true:=by
    rw[Z9c,List.all_eq_true]
    intro j hj
    rw[hn j (List.mem_range.mp hj)]
    rfl
   have q:=k H1 s1
   rw[this] at q
   exact q
end
end Pr
end
section
namespace Pr
open PySem PySem.Spec PyProof.Rows L2
open Vbwsaf (Input Deed Stay Window Cells)
theorem Zhi {cs:List Addr} {ss:List (Nat×Cells)} {R:Addr→Nat×Cells→Prop} (h:Paired R cs ss):Inc ss→∀ {k:Nat} {w:Cells},(k,w)∈ss→∃ b,valV (snK cs ss) (Sum.inl (k:Int))=some (.ref b)∧R b (k,w):=by
 induction h with
 | nil=>intro _ k w hm;cases hm
 | @cons b s cs ss r t ih=>
  intro hi k w hm
  rcases List.mem_cons.mp hm with e | hm
  ·refine ⟨b,?_,e ▸ r⟩
   exact Z0n (p:=(Sum.inl (s.1:Int),V.ref b)) (by rw[← e])
  ·obtain ⟨b',h1,h2⟩:=ih (List.pairwise_cons.mp hi).2 hm
   refine ⟨b',?_,h2⟩
   have hlt:=(List.pairwise_cons.mp hi).1 _ hm
   show valV ((Sum.inl (s.1:Int),V.ref b)::snK cs ss) _=_
   rw[W2 (fun e=>by injection e with e;have hlt:s.1<k:=hlt;omega)]
   exact h1
theorem W0.pl {v:Window Cells} (h:W0 v) (t:Nat):∀ d∈Vbwsaf.deedsIn v t,d.input.player<6:=fun d hd=>by have:=(h.inb _ (Zcb hd)).1;omega
theorem Zc0 {all ks:List Input} (h:all.Perm ks) {x:Input}:(valV (ks.map fun y=>(inK y,V.bl true)) (inK x)).isSome=all.any (Vbwsaf.alike x):=by
 rw[← W3,List.any_map,Bool.eq_iff_iff,List.any_eq_true,List.any_eq_true]
 constructor
 ·rintro ⟨y,hy,e⟩
  exact ⟨y,h.mem_iff.mpr hy,Li.U6.mpr (Zfo (of_decide_eq_true e)).symm⟩
 ·rintro ⟨y,hy,e⟩
  exact ⟨y,h.mem_iff.mp hy,decide_eq_true (by rw[Li.U6.mp e])⟩
section
variable {P:Program} {w:World} {K:PySem.W.Frag} {mg:Str→Option Value} {base:Heap}
def Wu (T:TX K mg):Sp:=fun vs H Q _=>∃ (p:Addr) (a:Ad) (sas:List Addr) (v:Window Cells) (late:List (List Nat)) (seed:Int) (l:Addr) (c:Cells) (n t:Nat),vs=[.ref p,.ref l,.int (n:Int),.int (t:Int)]∧Se T H p a sas v late seed∧W0 v∧LI H l c∧CB c∧n≤t∧t≤1000 ∧
 ∀ H' q,Same H H'→CB (Vbwsaf.reckon Vbwsaf.cells (Vbwsaf.deedsIn v) (t-n) n c)→LI H' q (Vbwsaf.reckon Vbwsaf.cells (Vbwsaf.deedsIn v) (t-n) n c)→Q (.ref q) H'
theorem Ja (T:TX K mg):FnOk P w K mg base CX0 7 T.Y1.f T.Y1.d ["self", "cells", "start", "tick"] (Wu T):=by
 refine T.Y1.F.ok Xa (fun vs H Q E h=>?_) (fun cdv A outer s H vs Q E hr h=>?_)
 ·obtain ⟨p,a,sas,v,late,seed,l,c,n,t,rfl,_⟩:=h
  rfl
 ·obtain ⟨p,a,sas,v,late,seed,l,c,n,t,rfl,hS,hW,hl,hc,h1,h2,k⟩:=h
  refine ⟨_,(Z4 (Jy PassesOwn.never rfl (Z4r rfl T.b_range (Z0 (pe_op Yx (pv 2) Z9) (Z0 (pe_op Yx (pv 3) Z9) Z3))) (Y4 (i:=4) Xa.nd rfl (Or.inl rfl)) (Z5 (Zy (i:=1) Xa.nd rfl (Or.inl rfl) (Zf (Z07 T) (hr.mono (by decide)) rfl T.cells_behind.m T.cells_behind.F.kp T.cells_behind.b .nil pass0 (Z0 (pv 1) (Z0 (pv 4) (Z0 (Yf (pv 0) T.Z1 T.Y0.M (Xk T) (hr.mono (by decide)) T.Y0.b .nil pass0 (Z0 (pv 4) Z3)) Z3)))))))
   (Z5 (Zc (pv 1)))),?_⟩
  obtain ⟨dx,ho⟩:=hS.ob
  refine ⟨_,rfl,_,_,rfl,rfl,_,rfl,_,_,rfl,rfl,_,_,rfl,(by omega),?_⟩
  have en:((t:Int)+1-((n:Int)+1)).toNat=t-n:=by omega
  rw[en]
  refine Jb (lo:=(n:Int)+1) (n:=t-n) (fun i σ H'=>∃ (u:Option V) (l':Addr),σ=[some (.ref p),some (.ref l'),some (.int (n:Int)),some (.int (t:Int)),u]∧Same H H'∧LI H' l' (Vbwsaf.reckon Vbwsaf.cells (Vbwsaf.deedsIn v) i n c)∧CB (Vbwsaf.reckon Vbwsaf.cells (Vbwsaf.deedsIn v) i n c))
   ⟨none,l,rfl,Same.refl H,hl,hc⟩ ?_ ?_
  ·rintro i σ H1 hi ⟨u,l',rfl,s1,hl1,hc1⟩
   have hS1:=hS.same s1
   have ei:((n:Int)+1+(i:Int))=((n+i+1:Nat):Int):=by omega
   refine ⟨_,rfl,_,rfl,_,rfl,p,dx,_,rfl,s1 _ _ ho,rfl,_,rfl,p,a,sas,v,late,seed,n+i+1,(by rw[ei];rfl),hS1,Nat.le_trans hW.sl (by decide),Nat.le_trans hW.ho (by decide),by omega,by omega,fun H2 q s2 _ hq=>?_⟩
   refine ⟨l',q,_,n+i+1,_,(by rw[ei];rfl),s2 _ _ hl1,hc1,hq,hW.pl _,fun H3 l3 s3 _ hl3=>?_⟩
   refine ⟨_,l3,rfl,(s1.trans s2).trans s3,?_,?_⟩
   ·rw[Li.Z1i];exact hl3
   ·rw[Li.Z1i];exact Z2f _ _ _
  ·rintro σ H1 ⟨u,l',rfl,s1,hl1,hc1⟩
   exact ⟨_,rfl,k H1 l' s1 hc1 hl1⟩
def W4 (T:TX K mg):Sp:=fun vs H Q _=>∃ (p:Addr) (a:Ad) (sas:List Addr) (v:Window Cells) (late:List (List Nat)) (seed:Int) (t k:Nat) (w:Cells),vs=[.ref p,.int (t:Int)]∧Se T H p a sas v late seed∧W0 v∧Inc v.snaps∧v.snaps.length≤1000∧t≤1000∧Vbwsaf.snapFor v t=some (k,w) ∧
 ∀ H' q,Same H H'→CB (Vbwsaf.reckon Vbwsaf.cells (Vbwsaf.deedsIn v) (t-k) k w)→LI H' q (Vbwsaf.reckon Vbwsaf.cells (Vbwsaf.deedsIn v) (t-k) k w)→Q (.ref q) H'
theorem Wb (T:TX K mg):FnOk P w K mg base CX0 8 T.Yb.f T.Yb.d ["self", "tick"] (W4 T):=by
 refine T.Yb.F.ok Xo (fun vs H Q E h=>?_) (fun cdv A outer s H vs Q E hr h=>?_)
 ·obtain ⟨p,a,sas,v,late,seed,t,k0,w0,rfl,_⟩:=h
  rfl
 ·obtain ⟨p,a,sas,v,late,seed,t,k0,w0,rfl,hS,hW,hinc,hlen,h2,hsf,k⟩:=h
  have hu:=hu_of hr
  refine ⟨_,(Z4 (Zy (i:=2) Xo.nd rfl (Or.inl rfl) (Yf (pv 0) T.Z1 T.Zg.M (Yj T) (hr.mono (by decide)) T.Zg.b .nil pass0 (Z0 (pv 1) Z3)))
   (Z5 (Zc (Yf (pv 0) T.Z1 T.Y1.M (Ja T) (hr.mono (by decide)) T.Y1.b .nil pass0 (Z0 (Zf1 hu (Za (pv 0) rfl) (pv 2) (fun _ _=>rfl)) (Z0 (pv 2) (Z0 (pv 1) Z3))))))),?_⟩
  obtain ⟨dx,ho⟩:=hS.ob
  obtain ⟨hm,hk⟩:=Z7s hsf
  refine ⟨_,rfl,p,dx,_,rfl,ho,rfl,_,rfl,p,a,sas,v,late,seed,t,k0,w0,rfl,hS,hinc,hlen,hsf,fun H1 s1=>?_⟩
  have hS1:=hS.same s1
  obtain ⟨cs,hd,hp⟩:=hS1.sn
  obtain ⟨b,hb1,hb2⟩:=Zhi hp hinc hm
  have hlb:=Z0r _ _ _ _ hb2
  refine ⟨_,rfl,p,dx,_,rfl,s1 _ _ ho,rfl,_,rfl,p,_,dx,_,_,rfl,s1 _ _ ho,T.Z1,T.Zo,rfl,_,rfl,a.ds,.ref b,rfl,(by rw[← hb1];exact DGet.k (k:=Sum.inl (k0:Int)) hd),_,rfl,_,rfl,?_⟩
  exact ⟨p,a,sas,v,late,seed,b,w0,k0,t,rfl,hS1,hW,hlb,hW.sc _ hm,hk,h2,fun H2 q s2 c2 h3=>k H2 q (s1.trans s2) c2 h3⟩
def W6 (T:TX K mg):Sp:=fun vs H Q _=>∃ (p:Addr) (a:Ad) (sas:List Addr) (v:Window Cells) (late:List (List Nat)) (seed:Int) (t:Nat),vs=[.ref p,.int (t:Int)]∧Se T H p a sas v late seed∧W0 v∧t≤1000 ∧
 ∀ H' q,Same H H'→CB (Vbwsaf.plain Vbwsaf.cells v (Vbwsaf.first seed) t)→LI H' q (Vbwsaf.plain Vbwsaf.cells v (Vbwsaf.first seed) t)→Q (.ref q) H'
theorem Wd (T:TX K mg):FnOk P w K mg base CX0 8 T.Yd.f T.Yd.d ["self", "tick"] (W6 T):=by
 refine T.Yd.F.ok W9 (fun vs H Q E h=>?_) (fun cdv A outer s H vs Q E hr h=>?_)
 ·obtain ⟨p,a,sas,v,late,seed,t,rfl,_⟩:=h
  rfl
 ·obtain ⟨p,a,sas,v,late,seed,t,rfl,hS,hW,h2,k⟩:=h
  refine ⟨_,(Z5 (Zc (Yf (pv 0) T.Z1 T.Y1.M (Ja T) (hr.mono (by decide)) T.Y1.b .nil pass0 (Z0 (Za (pv 0) rfl) (Z0 Z9 (Z0 (pv 1) Z3)))))),?_⟩
  obtain ⟨dx,ho⟩:=hS.ob
  refine ⟨_,rfl,p,dx,_,rfl,ho,rfl,_,rfl,p,_,dx,_,_,rfl,ho,T.Z1,T.Xv,rfl,_,rfl,?_⟩
  exact ⟨p,a,sas,v,late,seed,a.b,Vbwsaf.first seed,0,t,rfl,hS,hW,Z0r _ _ _ _ hS.b0,Z3y seed,Nat.zero_le _,h2,fun H2 q s2 c2 h3=>k H2 q s2 c2 h3⟩
noncomputable def reason (v:Window Cells) (x:Input):Option Nat:=
 if (Vbwsaf.stayOf v x.player).any (fun s=>s.stay==x.stay)=false then some 4
 else if x.tick≤v.settled then some 2
 else if v.now+v.rules.ahead<x.tick then some 3
 else if v.all.any (Vbwsaf.alike x)=true then some 0
 else none
noncomputable def optV:Option Nat→V
 | none=>.non
 | some n=>.int (n:Int)
def Jg (T:TX K mg):Sp:=fun vs H Q _=>∃ (p:Addr) (a:Ad) (sas:List Addr) (v:Window Cells) (late:List (List Nat)) (seed:Int) (q:Addr) (x:Input),vs=[.ref p,.ref q]∧Se T H p a sas v late seed∧InAt H q x ∧
 Q (optV (reason v x)) H
theorem Ji (T:TX K mg):FnOk P w K mg base CX0 2 T.Zq.f T.Zq.d ["self", "one"] (Jg T):=by
 refine T.Zq.F.ok X3 (fun vs H Q E h=>?_) (fun cdv A outer s H vs Q E hr h=>?_)
 ·obtain ⟨p,a,sas,v,late,seed,q,x,rfl,_⟩:=h
  rfl
 ·obtain ⟨p,a,sas,v,late,seed,q,x,rfl,hS,hq,k⟩:=h
  obtain ⟨t_NOT_PRESENT,Wj⟩:=T.Wj
  obtain ⟨t_PLAYER,Xd⟩:=T.Xd
  obtain ⟨t_STAY,Zfh⟩:=T.Zfh
  obtain ⟨t_THERE_ALREADY,U2⟩:=T.U2
  obtain ⟨t_TICK,Jn⟩:=T.Jn
  obtain ⟨t_TOO_EARLY,Z1r⟩:=T.Z1r
  obtain ⟨t_TOO_LATE,Js⟩:=T.Js
  have hu1:=Z9m hr
  refine ⟨_,(Z4 (Zy (i:=2) X3.nd rfl (Or.inl rfl) (Zf (Xr T) (hr.mono (by decide)) rfl T.present_stay.m T.present_stay.F.kp T.present_stay.b .nil pass0 (Z0 (Za (pv 0) rfl) (Z0 (pe_ix Yg (pv 1) (Zd (v:=.int 0) rfl Xd ⟨t_PLAYER,rfl⟩) (fun _ _=>rfl)) Z3))))
   (Z4 (ps_if (PW.pt (pw_or (Uu (Z6u (pv 2))) (Zeq (Zr op_ne (Za (pv 2) rfl) (pe_ix Yg (pv 1) (Zd (v:=.int 1) rfl Zfh ⟨t_STAY,rfl⟩) (fun _ _=>rfl)) (Y8 _))))) (Z5 (Zc (Zd (v:=.int 4) rfl Wj ⟨t_NOT_PRESENT,rfl⟩))) Zp)
   (Z4 (ps_if (Zr op_le (pe_ix Yg (pv 1) (Zd (v:=.int 3) rfl Jn ⟨t_TICK,rfl⟩) (fun _ _=>rfl)) (Za (pv 0) rfl) (Y8 _)) (Z5 (Zc (Zd (v:=.int 2) rfl Js ⟨t_TOO_LATE,rfl⟩))) Zp)
   (Z4 (ps_if (Zr op_gt (pe_ix Yg (pv 1) (Zd (v:=.int 3) rfl Jn ⟨t_TICK,rfl⟩) (fun _ _=>rfl)) (pe_op Yx (Za (pv 0) rfl) (Za (pv 0) rfl)) (Y8 _)) (Z5 (Zc (Zd (v:=.int 3) rfl Z1r ⟨t_TOO_EARLY,rfl⟩))) Zp)
   (Z4 (ps_if (Uu (pc_nin hu1 (pv 1) (Za (pv 0) rfl))) (Z5 (Zc (Zd (v:=.int 0) rfl U2 ⟨t_THERE_ALREADY,rfl⟩))) Zp)
   (Z5 (Zc Z6t))))))),?_⟩
  obtain ⟨dx,ho⟩:=hS.ob
  obtain ⟨dq,hq1,hq2⟩:=id hq
  refine ⟨_,rfl,p,_,dx,_,_,rfl,ho,T.Z1,T.Zt,rfl,_,rfl,q,_,_,_,rfl,rfl,SqT.of hq1,Zl (j:=0) rfl,a.ls,sas,v.stays,x.player,rfl,hS.st,fun i b s hb hs hf _ _ _=>?_,fun hf=>?_⟩
  ·obtain ⟨s',hs',dy,hst⟩:=Y5 hS.st.at_ hb
   rw[hs] at hs'
   cases hs'
   refine ⟨_,rfl,_,rfl,iteF ?_⟩
   refine ⟨_,rfl,b,_,dy,_,_,rfl,hst,T.X1,T.Uf,rfl,_,rfl,q,_,_,_,rfl,rfl,SqT.of hq1,Zl (j:=1) rfl,rfl,_,rfl,?_⟩
   have hf:Vbwsaf.stayOf v x.player=some s:=hf
   unfold reason at k
   rw[hf] at k
   refine ite2 (fun z=>?_) (fun z=>?_)
   ·have z:¬ s.stay=x.stay:=by
     intro e
     rw[e] at z
     simp at z
    rw[if_pos (by simpa using z)] at k
    exact k
   ·have z:s.stay=x.stay:=by
     simp at z
     omega
    rw[if_neg (by simp[z])] at k
    refine ⟨_,rfl,q,_,_,_,rfl,rfl,SqT.of hq1,Zl (j:=3) rfl,_,rfl,p,_,dx,_,_,rfl,ho,T.Z1,T.Zn,rfl,_,_,rfl,rfl,_,rfl,?_⟩
    refine ite2 (fun z=>?_) (fun z=>?_)
    ·rw[if_pos (by have:=of_decide_eq_true z;omega)] at k
     exact k
    ·rw[if_neg (fun e=>z (decide_eq_true (by omega)))] at k
     refine ⟨_,rfl,q,_,_,_,rfl,rfl,SqT.of hq1,Zl (j:=3) rfl,_,rfl,p,_,dx,_,_,rfl,ho,T.Z1,T.Zh,rfl,_,rfl,p,_,dx,_,_,rfl,ho,T.Z1,T.Z19,rfl,_,_,rfl,rfl,_,_,rfl,rfl,_,rfl,?_⟩
     refine ite2 (fun z=>?_) (fun z=>?_)
     ·rw[if_pos (by have:=of_decide_eq_true z;omega)] at k
      exact k
     ·rw[if_neg (fun e=>z (decide_eq_true (by omega)))] at k
      obtain ⟨ks,hk1,hk2⟩:=hS.kp
      refine ⟨_,rfl,_,rfl,p,_,dx,_,_,rfl,ho,T.Z1,T.X2,rfl,a.dk,q,_,inK x,rfl,rfl,hk1,hq,_,rfl,?_⟩
      rw[Zc0 hk2]
      refine ite2 (fun z=>?_) (fun z=>?_)
      ·rw[if_pos z] at k
       exact k
      ·rw[if_neg z] at k
       exact k
  ·have hf:Vbwsaf.stayOf v x.player=none:=hf
   unfold reason at k
   rw[hf] at k
   simp only[Option.any_none,if_true] at k
   exact ⟨_,rfl,_,rfl,iteT (iteT k)⟩
end
end Pr
end
section
namespace Pr
open PySem PySem.Spec PyProof.Rows L2
open Vbwsaf (Input Deed Stay Window Cells)
theorem Z8r (ks:List Nest.NK):∀ i j,j≤i→HT.lexLt (Nest.fl (ks.getD j ([],[]))) (Nest.fl (ks.getD (bestN ks i) ([],[])))=false
 | 0,j,h=>by
  have:j=0:=by omega
  subst this
  rw[Z29]
  exact Li.Z0c _
 | i+1,j,h=>by
  unfold bestN
  split
  ·rename_i q
   by_cases e:j=i+1
   ·subst e
    rw[Z29]
    exact Li.Z0c _
   ·have ih:=Z8r ks i j (by omega)
    rw[Z29] at ih q ⊢
    cases z:Vbwsaf.lessRow (Nest.fl (ks.getD j ([],[]))) (Nest.fl (ks.getD (i+1) ([],[]))) with
    | false=>rfl
    | true=>rw[Li.Z3x _ _ _ z q] at ih;cases ih
  ·rename_i q
   by_cases e:j=i+1
   ·subst e
    exact Bool.eq_false_iff.mpr q
   ·exact Z8r ks i j (by omega)
theorem Z5d (N:Nat×Nat×Nat):∀ l:List Input,(Vbwsaf.firsts l).find? (fun x=>decide (Li.nm x=N))=l.find? (fun x=>decide (Li.nm x=N))
 | []=>rfl
 | x::r=>by
  show (x::(Vbwsaf.firsts r).filter fun y=>!Vbwsaf.sameNumber x y).find? _=_
  rw[List.find?_cons,List.find?_cons]
  cases e:decide (Li.nm x=N) with
  | true=>rfl
  | false=>
   show ((Vbwsaf.firsts r).filter fun y=>!Vbwsaf.sameNumber x y).find? _=r.find? _
   rw[← Z5d N r]
   generalize Vbwsaf.firsts r=l
   induction l with
   | nil=>rfl
   | cons y l ih=>
    rw[List.filter_cons]
    by_cases h:Li.nm y=N
    ·have:Vbwsaf.sameNumber x y=false:=by
      cases z:Vbwsaf.sameNumber x y with
      | false=>rfl
      | true=>exact absurd ((Li.Z0q.mp z).trans h) (of_decide_eq_false e)
     rw[this]
     simp[List.find?_cons,h]
    ·rw[List.find?_cons_of_neg (by simpa using h)]
     split
     ·rw[List.find?_cons_of_neg (by simpa using h)]
      exact ih
     ·exact ih
theorem Zdg {f:Input→Bool} {all:List Input} (ho:Li.Ord all) {x:Input} (h:all.find? f=some x):∀ y∈all,f y=true→y=x∨Vbwsaf.less x y=true:=by
 induction all with
 | nil=>cases h
 | cons a l ih=>
  intro y hy hf
  rw[List.find?_cons] at h
  cases e:f a with
  | true=>
   rw[e] at h
   cases h
   rcases List.mem_cons.mp hy with r | r
   ·exact .inl r
   ·exact .inr ((List.pairwise_cons.mp ho).1 y r)
  | false=>
   rw[e] at h
   rcases List.mem_cons.mp hy with r | r
   ·rw[r,e] at hf;cases hf
   ·exact ih (List.pairwise_cons.mp ho).2 h y r hf
theorem Zgb (m:Nat) (fs:List Input) (x:Input):(Li.cnt m fs x.tick x.player).any (fun y=>Vbwsaf.alike x y)=(Vbwsaf.countsOf m fs x.tick).any (Vbwsaf.alike x):=by
 rw[← Li.Z2e,List.any_filter]
 congr 1
 funext y
 cases e:Vbwsaf.alike x y with
 | false=>simp
 | true=>rw[← Li.U6.mp e];simp
theorem Zbx (late:List (List Nat)) (l:List Nat):(valV (ltK late) (l.map fun (n:Nat)=>(Sum.inl (n:Int):Key))).isSome=late.contains l:=by
 unfold ltK
 rw[← W3,List.any_map,Bool.eq_iff_iff,List.any_eq_true,List.contains_iff_mem]
 constructor
 ·rintro ⟨y,hy,e⟩
  have e:y.map (fun (n:Nat)=>(Sum.inl (n:Int):Key))=l.map (fun (n:Nat)=>(Sum.inl (n:Int):Key)):=of_decide_eq_true e
  have:=(List.map_inj_right (fun (a b:Nat) h=>by injection h with h;omega)).mp e
  rw[← this]
  exact List.mem_reverse.mp hy
 ·intro h
  exact ⟨l,List.mem_reverse.mpr h,decide_eq_true rfl⟩
theorem Zfu {all ks:List Input} (N:Nat×Nat×Nat) (ho:Li.Ord all) (hp:all.Perm ks):(ks.filter (fun x=>decide (Li.nm x=N))=[]→(Vbwsaf.firsts all).find? (fun x=>decide (Li.nm x=N))=none) ∧
  ∀ (i:Nat) (b:Input),(ks.filter (fun x=>decide (Li.nm x=N)))[i]?=some b→i=bestN ((ks.filter (fun x=>decide (Li.nm x=N))).map inK) ((ks.filter (fun x=>decide (Li.nm x=N))).length-1)→(Vbwsaf.firsts all).find? (fun x=>decide (Li.nm x=N))=some b:=by
 rw[Z5d]
 constructor
 ·intro h
  rw[List.find?_eq_none]
  intro x hx hf
  have:x∈ks.filter (fun x=>decide (Li.nm x=N)):=List.mem_filter.mpr ⟨hp.mem_iff.mp hx,hf⟩
  rw[h] at this
  cases this
 ·intro i b hb hi
  cases e:all.find? (fun x=>decide (Li.nm x=N)) with
  | none=>
   rw[List.find?_eq_none] at e
   have:=List.mem_filter.mp (List.mem_of_getElem? hb)
   exact absurd this.2 (e b (hp.mem_iff.mpr this.1))
  | some x=>
   have hbm:=List.mem_filter.mp (List.mem_of_getElem? hb)
   have hxm:x∈ks.filter (fun x=>decide (Li.nm x=N)):=List.mem_filter.mpr ⟨hp.mem_iff.mp (List.mem_of_find?_eq_some e),(by have:=List.find?_some e;exact this)⟩
   rcases Zdg ho e b (hp.mem_iff.mpr hbm.1) hbm.2 with r | r
   ·rw[r]
   ·obtain ⟨j,hj⟩:=List.mem_iff_getElem?.mp hxm
    have hjl:=(List.getElem?_eq_some_iff.mp hj).1
    have q:=Z8r ((ks.filter (fun x=>decide (Li.nm x=N))).map inK) ((ks.filter (fun x=>decide (Li.nm x=N))).length-1) j (by omega)
    rw[← hi,List.getD_eq_getElem?_getD,List.getD_eq_getElem?_getD,List.getElem?_map,List.getElem?_map,hj,hb] at q
    have q:HT.lexLt (Nest.fl (inK x)) (Nest.fl (inK b))=false:=q
    rw[Zhm,r] at q
    cases q
section
variable {P:Program} {w:World} {K:PySem.W.Frag} {mg:Str→Option Value} {base:Heap}
def Z1d (T:TX K mg):Sp:=fun vs H Q _=>∃ (p:Addr) (a:Ad) (sas:List Addr) (v:Window Cells) (late:List (List Nat)) (seed:Int) (q:Addr) (x y z:Nat),vs=[.ref p,.ref q]∧Se T H p a sas v late seed∧W0 v∧H q=some (.tup [.int (x:Int),.int (y:Int),.int (z:Int)]) ∧
 ∀ H' l,Same H H'→LI H' l (Vbwsaf.fateOf ⟨some v,seed,late⟩ x y z)→Q (.ref l) H'
theorem Z1l (T:TX K mg):FnOk P w K mg base CX0 3 T.X4.f T.X4.d ["self", "name"] (Z1d T):=by
 refine T.X4.F.ok Yz (fun vs H Q E h=>?_) (fun cdv A outer s H vs Q E hr h=>?_)
 ·obtain ⟨p,a,sas,v,late,seed,q,x,y,z,rfl,_⟩:=h
  rfl
 ·obtain ⟨p,a,sas,v,late,seed,q,x,y,z,rfl,hS,hW,hq,k⟩:=h
  obtain ⟨t_FIRST_COUNTS,Us⟩:=T.Us
  obtain ⟨t_FIRST_COUNTS_NOT,Xt⟩:=T.Xt
  obtain ⟨t_NEVER_CAME,Z0e⟩:=T.Z0e
  obtain ⟨t_ONLY_LATE,Z1s⟩:=T.Z1s
  obtain ⟨t_TICK,Jn⟩:=T.Jn
  have hu:=hu_of hr
  have hu1:=Z9m hr
  refine ⟨_,(Z4 (Zy (i:=2) Yz.nd rfl (Or.inl rfl) (pe_minN rfl hu1 rfl T.b_min (Z0 (Zan (pe_lc (own:=[("one",3)]) rfl Yz.nd (Zgr (Za (pv 0) rfl)) (Xw rfl) (fun _ _ _ _ _=>(Y4 (i:=3) Yz.nd rfl (Or.inl rfl))) (fun _ _ _ _ _=>(Z83 (Zr (op_eqDK (K:=K) hr.units) (Zf (Z0t T) (hr.mono (by decide)) rfl T.name_of.m T.name_of.F.kp T.name_of.b .nil pass0 (Z0 (pv 3) Z3)) (pv 1) (Y8 _)))) (fun _ _ _ _ _=>(pv 3)))) Z3)))
   (Z4 (ps_if (Uu (Z89 (pv 2))) (Z5 (Zc (Zv (Z0 (Z27 (Z4q (Yf (pv 0) T.Z1 T.Zz.M (J9 T) (hr.mono (by decide)) T.Zz.b .nil pass0 (Z0 (pv 2) Z3))) (Zd (v:=.int 1) rfl Us ⟨t_FIRST_COUNTS,rfl⟩) (Zd (v:=.int 3) rfl Xt ⟨t_FIRST_COUNTS_NOT,rfl⟩)) (Z0 (pe_ix Yg (pv 2) (Zd (v:=.int 3) rfl Jn ⟨t_TICK,rfl⟩) (fun _ _=>rfl)) Z3))))) Zp)
   (Z5 (Zc (Zv (Z0 (Z27 (Uu (pc_din hu (pv 1) (Za (pv 0) rfl))) (Zd (v:=.int 2) rfl Z1s ⟨t_ONLY_LATE,rfl⟩) (Zd (v:=.int 0) rfl Z0e ⟨t_NEVER_CAME,rfl⟩)) (Z0 Z9 Z3))))))),?_⟩
  obtain ⟨dx,ho⟩:=hS.ob
  obtain ⟨ks,hk1,hk2⟩:=hS.kp
  refine ⟨a.dk,_,hk1,trivial,fun od=>?_⟩
  have ho':=Zm (o:=.frz od (.dN (ks.map fun x=>(inK x,.bl true)))) ho (ne_of ho hk1 (fun z=>nomatch z))
  have hq':=Zm (o:=.frz od (.dN (ks.map fun x=>(inK x,.bl true)))) hq (ne_of hq hk1 (fun z=>nomatch z))
  refine ⟨_,rfl,p,_,dx,_,_,rfl,ho',T.Z1,T.X2,rfl,a.dk,od,_,rfl,Z2,fun D hD=>?_⟩
  refine Zfd (J:=Itkn a.dk od (ks.map fun x=>(inK x,.bl true))) (n:=ks.length) (fun i H'=>Same (upd H a.dk (.frz od (.dN (ks.map fun x=>(inK x,.bl true))))) H'∧Lof InAt H' D ((ks.take i).filter fun u=>decide (Li.nm u=(x,y,z)))) ⟨Same.new hD,[],Z2,.nil⟩ (fun i H' hi q=>⟨q.1 _ _ Z2,by rw[List.length_map];exact hi⟩) (fun H' q=>⟨q.1 _ _ Z2,by rw[List.length_map];exact Nat.le_refl _⟩) ?_ ?_
  ·rintro i H1 x1 H2 hi ⟨s1,as,h1,h2⟩ ⟨rfl,kk,u,b,hku,rfl,hb⟩
   obtain ⟨one,hone,rfl⟩:∃ o,ks[i]?=some o∧kk=inK o:=by
    rw[List.getElem?_map] at hku
    cases e:ks[i]? with
    | none=>rw[e] at hku;cases hku
    | some o=>rw[e] at hku;cases hku;exact ⟨o,rfl,rfl⟩
   refine ⟨rfl,_,rfl,b,one,rfl,hb,fun q2 hq2=>?_⟩
   have hq3:upd H2 q2 (.tup [.int (one.player:Int),.int (one.stay:Int),.int (one.number:Int)]) q=some (.tup [.int (x:Int),.int (y:Int),.int (z:Int)]):=by
    rw[Z8 (Z6 (s1 _ _ hq') hq2)]
    exact s1 _ _ hq'
   refine ⟨_,rfl,_,_,Z8o Z2,Z8o hq3,Z0u _,Z0u _,_,rfl,?_⟩
   have s2:=Same.new (o:=.tup [.int (one.player:Int),.int (one.stay:Int),.int (one.number:Int)]) hq2
   have h2':Paired (InAt (upd H2 q2 (.tup [.int (one.player:Int),.int (one.stay:Int),.int (one.number:Int)]))) as _:=Paired.mapP h2 fun _ _ r=>r.same s2
   have hD2:=s2 _ _ h1
   rw[Zf6]
   have eqn:(decide (some (one.player,one.stay,one.number)=some (x,y,z)))=decide (Li.nm one=(x,y,z)):=by
    rw[Bool.eq_iff_iff,decide_eq_true_eq,decide_eq_true_eq]
    exact ⟨fun e=>Option.some.inj e,fun e=>by rw[← e];rfl⟩
   rw[eqn,J4 _ hone]
   refine ite2 (fun zz=>?_) (fun zz=>?_)
   ·rw[if_pos zz]
    have la:as.length≤i:=by
     rw[Paired.length h2]
     have:=List.length_filter_le (fun u=>decide (Li.nm u=(x,y,z))) (ks.take i)
     rw[List.length_take] at this
     omega
    have hkl:ks.length≤100:=by rw[← hk2.length_eq];exact hW.al
    refine ⟨_,rfl,_,hD2,by rw[List.length_map,sizeLine_eq];omega,Wa (s1.trans s2) hD,as++[b],by rw[Z2,List.map_append];rfl,?_⟩
    exact Xq (Paired.mapP h2' fun _ _ r=>NAt.mono r (Ys hD2)) (NAt.mono (NAt.mono hb fun c xs e=>s2 _ _ e) (Ys hD2))
   ·rw[if_neg zz,List.append_nil]
    exact ⟨s1.trans s2,as,hD2,h2'⟩
  ·rintro H1 ⟨s1,as,h1,h2⟩
   rw[List.take_length] at h2
   have hfz:=s1 _ _ Z2
   refine ⟨hfz,?_⟩
   have s2:=Z1h hk1 s1
   have hDd:D≠a.dk:=fun e=>by rw[e,Z2] at hD;cases hD
   have tp:∀ b xs,H1 b=some (.tup xs)→upd H1 a.dk (.dN (ks.map fun x=>(inK x,.bl true))) b=some (.tup xs):=fun b xs e=>by rw[Z8 (ne_of e hfz (fun z=>nomatch z))];exact e
   have h2':Paired (InAt (upd H1 a.dk (.dN (ks.map fun x=>(inK x,.bl true))))) as _:=Paired.mapP h2 fun _ _ r=>NAt.mono r tp
   have go:∀ {H:Hp} {as:List Addr} {xs:List Input},Paired (InAt H) as xs→Paired (fun k b=>NAt H k b) (xs.map inK) as:=by
    intro H as xs h
    induction h with
    | nil=>exact .nil
    | cons r t ih=>exact .cons r ih
   have la:=Paired.length h2
   obtain ⟨f1,f2⟩:=Zfu (x,y,z) hW.ord hk2
   have hS2:=hS.same s2
   obtain ⟨dx2,ho2⟩:=hS2.ob
   have efate:Vbwsaf.fateOf ⟨some v,seed,late⟩ x y z=match (Vbwsaf.firsts v.all).find? (fun u=>decide (Li.nm u=(x,y,z))) with
     | some x=>[if (Vbwsaf.countsFor v.rules.most v.all x.tick).any (Vbwsaf.alike x)=true then 1 else 3,(x.tick:Int)]
     | none=>[if late.contains [x,y,z]=true then 2 else 0,0]:=by
    show (match (Vbwsaf.firsts v.all).find? (fun u=>u.player==x&&(u.stay==y&&u.number==z)) with
     | some x=>_
     | none=>_)=_
    have:(fun u:Input=>u.player==x&&(u.stay==y&&u.number==z))=fun u=>decide (Li.nm u=(x,y,z)):=by
     funext u
     rw[Bool.eq_iff_iff]
     simp[Li.nm]
    rw[this]
    rfl
   refine ⟨D,as,_,rfl,SqL.of (by rw[Z8 hDd];exact h1),go h2',fun kk hkk=>?_,fun e=>?_,fun b hb=>?_⟩
   ·obtain ⟨u,_,rfl⟩:=List.mem_map.mp hkk
    rfl
   ·rw[e] at la
    have e0:=f1 (List.eq_nil_of_length_eq_zero la.symm)
    rw[e0] at efate
    rw[efate] at k
    dsimp only at k
    refine ⟨_,rfl,_,rfl,iteF ?_⟩
    have hq4:=s2 _ _ hq
    refine ⟨_,rfl,_,rfl,p,_,dx2,_,_,rfl,ho2,T.Z1,T.Xu,rfl,a.dl,_,rfl,DGet.t (k:=[x,y,z].map fun (n:Nat)=>(Sum.inl (n:Int):Key)) hS2.lt hq4,_,rfl,?_⟩
    rw[Zbx]
    refine ite2 (fun zz=>?_) (fun zz=>?_)
    ·rw[if_pos zz] at k
     refine ⟨by show 2≤sizeLine;decide,fun l hl=>?_⟩
     exact k _ l (s2.trans (Same.new hl)) Z2
    ·rw[if_neg zz] at k
     refine ⟨by show 2≤sizeLine;decide,fun l hl=>?_⟩
     exact k _ l (s2.trans (Same.new hl)) Z2
   ·obtain ⟨u,hu1',hu2⟩:=Y5 h2' hb
    rw[la] at hu1'
    have e0:=f2 _ u hu1' rfl
    rw[e0] at efate
    rw[efate] at k
    dsimp only at k
    obtain ⟨du,hu3,hu4⟩:=id hu2
    refine ⟨_,rfl,_,rfl,iteT ?_⟩
    refine ⟨_,rfl,p,dx2,_,rfl,ho2,rfl,_,rfl,p,a,sas,v,late,seed,b,u,rfl,hS2,hu2,fun H3 s3=>?_⟩
    refine ⟨_,rfl,?_⟩
    rw[Zgb]
    unfold Vbwsaf.countsFor at k
    have hu5:=s3 _ _ hu3
    refine ite2 (fun zz=>?_) (fun zz=>?_)
    ·rw[if_pos zz] at k
     refine ⟨_,rfl,b,_,_,_,rfl,rfl,SqT.of hu5,Zl (j:=3) rfl,by show 2≤sizeLine;decide,fun l hl=>?_⟩
     exact k _ l (s2.trans (s3.trans (Same.new hl))) Z2
    ·rw[if_neg zz] at k
     refine ⟨_,rfl,b,_,_,_,rfl,rfl,SqT.of hu5,Zl (j:=3) rfl,by show 2≤sizeLine;decide,fun l hl=>?_⟩
     exact k _ l (s2.trans (s3.trans (Same.new hl))) Z2
end
end Pr
end
section
namespace Pr
open PySem PySem.Spec PyProof.Rows L2
open Vbwsaf (Input Deed Stay Window Cells)
abbrev Fr (H:Hp) (M:List Addr) (H':Hp) (M':List Addr):Prop:=Same (res H M) (res H' M')
theorem Fr.of {H H':Hp} {M:List Addr} (s:Same H H'):Fr H M H' M:=Z3v s
theorem Fr.upd {H:Hp} {M:List Addr} {m:Addr} {o:HO} (h:m∈M):Fr H M (upd H m o) M:=by
 unfold Fr
 rw[Z04 h]
 exact Same.refl _
theorem ins_ne {C D dx dy:Addr} {fs gs:List (Str×V)} (h:fs.length≠gs.length):HO.ins C dx fs≠HO.ins D dy gs:=fun e=>by injection e with _ _ e;exact h (by rw[e])
section
variable {C CS:Addr} {H:Hp} {p:Addr} {a:Ad} {sas:List Addr} {v:Window Cells} {late:List (List Nat)} {seed:Int}
theorem SeAt.p_ls (h:SeAt C CS H p a sas v late seed):a.ls≠p:=by obtain ⟨dx,h1⟩:=h.ob;exact ne_of h.st.lst h1 (fun z=>nomatch z)
theorem SeAt.p_dk (h:SeAt C CS H p a sas v late seed):a.dk≠p:=by obtain ⟨dx,h1⟩:=h.ob;obtain ⟨ks,h2,_⟩:=h.kp;exact ne_of h2 h1 (fun z=>nomatch z)
theorem SeAt.p_dl (h:SeAt C CS H p a sas v late seed):a.dl≠p:=by obtain ⟨dx,h1⟩:=h.ob;exact ne_of h.lt h1 (fun z=>nomatch z)
theorem SeAt.p_ds (h:SeAt C CS H p a sas v late seed):a.ds≠p:=by obtain ⟨dx,h1⟩:=h.ob;obtain ⟨cs,h2,_⟩:=h.sn;exact ne_of h2 h1 (fun z=>nomatch z)
theorem Z35 (h:StaysAt CS H a.ls sas v.stays) {b:Addr} (hb:b∈sas):∃ s∈v.stays,StAt CS H b s:=by
 obtain ⟨i,hi⟩:=List.mem_iff_getElem?.mp hb
 obtain ⟨s,hs,r⟩:=Y5 h.at_ hi
 exact ⟨s,List.mem_of_getElem? hs,r⟩
theorem SeAt.p_sas (h:SeAt C CS H p a sas v late seed):∀ b∈sas,b≠p:=by
 intro b hb
 obtain ⟨dx,h1⟩:=h.ob
 obtain ⟨s,_,dy,h2⟩:=Z35 h.st hb
 exact ne_of h2 h1 (ins_ne (by show 4≠14;decide))
theorem SeAt.there (h:SeAt C CS H p a sas v late seed):∀ b∈mset p a sas,∃ o,H b=some o:=by
 obtain ⟨dx,h1⟩:=h.ob
 obtain ⟨ks,h2,_⟩:=h.kp
 obtain ⟨cs,h3,_⟩:=h.sn
 intro b hb
 rcases List.mem_cons.mp hb with rfl | hb
 ·exact ⟨_,h1⟩
 rcases List.mem_cons.mp hb with rfl | hb
 ·exact ⟨_,h.st.lst⟩
 rcases List.mem_cons.mp hb with rfl | hb
 ·exact ⟨_,h2⟩
 rcases List.mem_cons.mp hb with rfl | hb
 ·exact ⟨_,h.lt⟩
 rcases List.mem_cons.mp hb with rfl | hb
 ·exact ⟨_,h3⟩
 obtain ⟨s,_,dy,h4⟩:=Z35 h.st hb
 exact ⟨_,h4⟩
theorem SeAt.new (h:SeAt C CS H p a sas v late seed) {b:Addr} (hb:H b=none):b ∉ mset p a sas:=fun hm=>by
 obtain ⟨o,ho⟩:=h.there b hm
 rw[hb] at ho
 cases ho
theorem Ws {l m:Addr} {as:List Addr} {ss:List Stay} {o:HO} (h:StaysAt CS H l as ss) (h1:l≠m) (h2:∀ b∈as,b≠m):StaysAt CS (upd H m o) l as ss:=by
 refine ⟨Zm h.lst h1,h.nd,?_⟩
 have go:∀ {as:List Addr} {ss:List Stay},Paired (StAt CS H) as ss→(∀ b∈as,b≠m)→Paired (StAt CS (upd H m o)) as ss:=by
  intro as ss hp
  induction hp with
  | nil=>intro _;exact .nil
  | cons r t ih=>
   intro hm
   obtain ⟨dx,r⟩:=r
   exact .cons ⟨dx,Zm r (hm _ (List.mem_cons_self ..))⟩ (ih fun b hb=>hm b (List.mem_cons_of_mem _ hb))
 exact go h.at_ h2
theorem SeAt.fld (h:SeAt C CS H p a sas v late seed) {dx:Addr} {c':Addr} {v':Window Cells} (e1:v'.stays=v.stays) (e2:v'.all=v.all) (e3:v'.snaps=v.snaps) (e4:v'.rules.most=v.rules.most) (hc:LI (res H (mset p a sas)) c' v'.head) :
  SeAt C CS (upd H p (.ins C dx (seF v' { a with c:=c' }))) p { a with c:=c' } sas v' late seed:=by
 obtain ⟨ks,h2,h3⟩:=h.kp
 obtain ⟨cs,h4,h5⟩:=h.sn
 have er:res (upd H p (.ins C dx (seF v' { a with c:=c' }))) (mset p a sas)=res H (mset p a sas):=Z04 (by simp)
 refine ⟨⟨dx,Z2⟩,?_,⟨ks,Zm h2 h.p_dk,by rw[e2];exact h3⟩,Zm h.lt h.p_dl,⟨cs,?_,?_⟩,?_,?_,?_⟩
 ·rw[e1]
  exact Ws h.st h.p_ls h.p_sas
 ·rw[e3]
  exact Zm h4 h.p_ds
 ·rw[e3]
  show Paired (fun (b:Addr) (s:Nat×Cells)=>LI (res _ (mset p a sas)) b s.2) cs v.snaps
  rw[er]
  exact h5
 ·show CtAt (res _ (mset p a sas)) _ _
  rw[er,e2,e4]
  exact h.ct
 ·show LI (res _ (mset p a sas)) _ _
  rw[er]
  exact h.b0
 ·show LI (res _ (mset p a sas)) _ _
  rw[er]
  exact hc
end
section
variable {C CS:Addr} {H:Hp} {p:Addr} {a:Ad} {sas:List Addr} {v:Window Cells} {late:List (List Nat)} {seed:Int}
theorem SeAt.d_ls (h:SeAt C CS H p a sas v late seed) {m:Addr} {kvs:List (Key×V)} (hm:H m=some (.dK kvs)):a.ls≠m∧(∀ b∈sas,b≠m)∧a.dk≠m∧a.dl≠m∧p≠m:=by
 obtain ⟨dx,h1⟩:=h.ob
 obtain ⟨ks,h2,_⟩:=h.kp
 refine ⟨ne_of h.st.lst hm (fun z=>nomatch z),fun b hb=>?_,ne_of h2 hm (fun z=>nomatch z),ne_of h.lt hm (fun z=>nomatch z),ne_of h1 hm (fun z=>nomatch z)⟩
 obtain ⟨s,_,dy,h4⟩:=Z35 h.st hb
 exact ne_of h4 hm (fun z=>nomatch z)
theorem SeAt.snp (h:SeAt C CS H p a sas v late seed) {cs':List Addr} {ss':List (Nat×Cells)} (hp:Paired (fun (b:Addr) (s:Nat×Cells)=>LI (res H (mset p a sas)) b s.2) cs' ss') :
  SeAt C CS (upd H a.ds (.dK (snK cs' ss'))) p a sas { v with snaps:=ss' } late seed:=by
 obtain ⟨dx,h1⟩:=h.ob
 obtain ⟨ks,h2,h3⟩:=h.kp
 obtain ⟨cs,h4,h5⟩:=h.sn
 obtain ⟨n1,n2,n3,n4,n5⟩:=h.d_ls h4
 have er:res (upd H a.ds (.dK (snK cs' ss'))) (mset p a sas)=res H (mset p a sas):=Z04 (by simp)
 refine ⟨⟨dx,Zm h1 n5⟩,Ws h.st n1 n2,⟨ks,Zm h2 n3,h3⟩,Zm h.lt n4,⟨cs',Z2,?_⟩,?_,?_,?_⟩
 ·rw[er];exact hp
 ·rw[er];exact h.ct
 ·rw[er];exact h.b0
 ·rw[er];exact h.cl
end
noncomputable def putS (ss:List (Nat×Cells)) (t:Nat) (w:Cells):List (Nat×Cells):=if (ss.any fun s=>decide (s.1=t))=true then ss.map (fun s=>if s.1=t then (t,w) else s) else ss++[(t,w)]
theorem snK_put {R:Addr→Nat×Cells→Prop} {cs:List Addr} {ss:List (Nat×Cells)} (h:Paired R cs ss) {t:Nat} {w:Cells} {q:Addr} (hq:R q (t,w)):∃ cs',putK (snK cs ss) (Sum.inl (t:Int)) (.ref q)=snK cs' (putS ss t w)∧Paired R cs' (putS ss t w):=by
 have ea:(snK cs ss).any (fun kv=>decide (kv.1=(Sum.inl (t:Int):Key)))=ss.any fun s=>decide (s.1=t):=by
  induction h with
  | nil=>rfl
  | @cons b s cs ss r tl ih=>
   show (decide ((Sum.inl (s.1:Int):Key)=Sum.inl (t:Int))||(snK cs ss).any _)=_
   rw[ih,List.any_cons]
   congr 1
   rw[Bool.eq_iff_iff,decide_eq_true_eq,decide_eq_true_eq]
   exact ⟨fun e=>by injection e with e;omega,fun e=>by rw[e]⟩
 unfold putK putS
 rw[ea]
 by_cases hb:(ss.any fun s=>decide (s.1=t))=true
 ·rw[if_pos hb,if_pos hb]
  clear hb ea
  induction h with
  | nil=>exact ⟨[],rfl,.nil⟩
  | @cons b s cs ss r tl ih=>
   obtain ⟨cs',e1,e2⟩:=ih
   show ∃ cs',((if (Sum.inl (s.1:Int):Key)=Sum.inl (t:Int) then ((Sum.inl (s.1:Int):Key),V.ref q) else (Sum.inl (s.1:Int),V.ref b))::(snK cs ss).map _)=snK cs' ((if s.1=t then (t,w) else s)::ss.map _)∧Paired R cs' ((if s.1=t then (t,w) else s)::ss.map _)
   by_cases e:s.1=t
   ·refine ⟨q::cs',?_,?_⟩
    ·rw[if_pos (by rw[e]),if_pos e,e1,e];rfl
    ·rw[if_pos e];exact .cons hq e2
   ·refine ⟨b::cs',?_,?_⟩
    ·rw[if_neg (fun z=>e (by injection z with z;omega)),if_neg e,e1];rfl
    ·rw[if_neg e];exact .cons r e2
 ·rw[if_neg hb,if_neg hb]
  refine ⟨cs++[q],?_,Xq h hq⟩
  clear hb ea
  induction h with
  | nil=>rfl
  | @cons b s cs ss r tl ih=>
   show _::(snK cs ss++_)=_::snK (cs++[q]) (ss++[(t,w)])
   rw[ih]
def stepR (v:Window Cells) (t:Nat):Window Cells:={ v with head:=Vbwsaf.cells v.head t (Vbwsaf.deedsIn v t),snaps:=if t%v.rules.every=0 then putS v.snaps t (Vbwsaf.cells v.head t (Vbwsaf.deedsIn v t)) else v.snaps }
section
variable {P:Program} {w:World} {K:PySem.W.Frag} {mg:Str→Option Value} {base:Heap}
def Z2p (T:TX K mg):Sp:=fun vs H Q _=>∃ (p:Addr) (a:Ad) (sas:List Addr) (v:Window Cells) (late:List (List Nat)) (seed:Int) (t:Nat),vs=[.ref p,.int (t:Int)]∧Se T H p a sas v late seed∧W0 v∧v.snaps.length≤1000∧1≤t∧t≤1000 ∧
 ∀ H' a',Se T H' p a' sas (stepR v t) late seed→Fr H (mset p a sas) H' (mset p a' sas)→Q .non H'
theorem Uw (T:TX K mg):FnOk P w K mg base CX0 7 T.Yr.f T.Yr.d ["self", "tick"] (Z2p T):=by
 refine T.Yr.F.ok Z2s (fun vs H Q E h=>?_) (fun cdv A outer s H vs Q E hr h=>?_)
 ·obtain ⟨p,a,sas,v,late,seed,t,rfl,_⟩:=h
  rfl
 ·obtain ⟨p,a,sas,v,late,seed,t,rfl,hS,hW,hlen,h1,h2,k⟩:=h
  have hu:=hu_of hr
  refine ⟨_,(Z4 (Yu (pv 0) (Zf (Z07 T) (hr.mono (by decide)) rfl T.cells_behind.m T.cells_behind.F.kp T.cells_behind.b .nil pass0 (Z0 (Za (pv 0) rfl) (Z0 (pv 1) (Z0 (Yf (pv 0) T.Z1 T.Y0.M (Xk T) (hr.mono (by decide)) T.Y0.b .nil pass0 (Z0 (pv 1) Z3)) Z3)))) rfl)
   (Z5 (ps_if (Zr op_eq (pe_op Z6y (pv 1) (Za (pv 0) rfl)) Z9 (Y8 _)) (Z5 (Zeu hu (Za (pv 0) rfl) (pv 1) (Za (pv 0) rfl) rfl)) Zp))),?_⟩
  obtain ⟨dx,ho⟩:=hS.ob
  refine ⟨_,rfl,p,_,dx,_,_,rfl,ho,T.Z1,T.Yo,rfl,_,rfl,_,rfl,p,dx,_,rfl,ho,rfl,_,rfl,p,a,sas,v,late,seed,t,rfl,hS,Nat.le_trans hW.sl (by decide),Nat.le_trans hW.ho (by decide),h1,by omega,fun H1 q s1 _ hq=>?_⟩
  refine ⟨a.c,q,_,t,_,rfl,s1 _ _ (Z0r _ _ _ _ hS.cl),hW.hd,hq,hW.pl _,fun H2 l s2 hn hl=>?_⟩
  have s12:=s1.trans s2
  have hS2:=hS.same s12
  have ho2:=s12 _ _ ho
  have hln:l ∉ mset p a sas:=fun hm=>by
   obtain ⟨o,e⟩:=(hS.same s1).there l hm
   rw[hn] at e
   cases e
  have hl':=Y3 hl hln
  refine ⟨_,rfl,p,_,dx,_,rfl,ho2,T.Z1,T.Yo,(by show 14<1000;decide),?_⟩
  have hS3:=hS2.fld (dx:=dx) (c':=l) (v':={ v with head:=Vbwsaf.cells v.head t (Vbwsaf.deedsIn v t) }) rfl rfl rfl rfl hl'
  have f3:Fr H (mset p a sas) (upd H2 p (.ins T.cSession dx (seF { v with head:=Vbwsaf.cells v.head t (Vbwsaf.deedsIn v t) } { a with c:=l }))) (mset p a sas):=(Fr.of s12).trans (Fr.upd (by simp))
  have ef:putF "cells" (V.ref l) (seF v a)=seF { v with head:=Vbwsaf.cells v.head t (Vbwsaf.deedsIn v t) } { a with c:=l }:=rfl
  rw[ef]
  obtain ⟨dx3,ho3⟩:=hS3.ob
  refine ⟨_,rfl,_,rfl,p,_,dx3,_,_,rfl,ho3,T.Z1,T.Z18,rfl,_,_,rfl,rfl,(show (0:Int)<(v.rules.every:Int) by have:=hW.ev;omega),rfl,_,rfl,?_⟩
  have key:(decide (V.int ((t:Int)%(v.rules.every:Int))=V.int 0))=decide (t%v.rules.every=0):=by
   rw[Bool.eq_iff_iff,decide_eq_true_eq,decide_eq_true_eq]
   constructor
   ·intro e
    injection e with e
    have:((t%v.rules.every:Nat):Int)=0:=by rw[Int.natCast_emod];exact e
    omega
   ·intro e
    have:((t%v.rules.every:Nat):Int)=0:=by rw[e];rfl
    rw[Int.natCast_emod] at this
    rw[this]
  have k':=k
  unfold stepR at k'
  refine ite2 (fun z=>?_) (fun z=>?_)
  ·have z:t%v.rules.every=0:=by
    have:=key.symm.trans z
    exact of_decide_eq_true this
   rw[if_pos z] at k'
   obtain ⟨cs,h4,h5⟩:=hS3.sn
   obtain ⟨cs',e1,e2⟩:=snK_put h5 (t:=t) (w:=Vbwsaf.cells v.head t (Vbwsaf.deedsIn v t)) (q:=l) hS3.cl
   refine ⟨_,rfl,p,_,dx3,_,_,rfl,ho3,T.Z1,T.Yo,rfl,_,rfl,p,_,dx3,_,_,rfl,ho3,T.Z1,T.Zo,rfl,_,rfl,a.ds,_,rfl,DPut.k (k:=Sum.inl (t:Int)) h4 (by rw[Z4a h5,sizeLine_eq];show v.snaps.length<_;omega),?_⟩
   rw[e1]
   exact k' _ _ (hS3.snp e2) (f3.trans (Fr.upd (by simp)))
  ·have z:¬ t%v.rules.every=0:=fun e=>z (key.trans (decide_eq_true e))
   rw[if_neg z] at k'
   exact k' _ _ hS3 f3
end
end Pr
end
section
namespace Pr
open PySem PySem.Spec PyProof.Rows L2
open Vbwsaf (Input Deed Stay Window Cells)
theorem Zgh {R:Addr→Nat×Cells→Prop} {cs:List Addr} {ss:List (Nat×Cells)} (h:Paired R cs ss) (b:Addr) (s:Nat×Cells):snK (cs++[b]) (ss++[s])=snK cs ss++[(Sum.inl (s.1:Int),.ref b)]:=by
 induction h with
 | nil=>rfl
 | @cons c s' cs ss r tl ih=>
  show _::snK (cs++[b]) (ss++[s])=_::(snK cs ss++_)
  rw[ih]
theorem Zbu:∀ (more kvs:List (Key×V)),(kvs++more).Pairwise (fun a b=>a.1≠b.1)→mergeK kvs more=kvs++more
 | [],kvs,_=>by rw[List.append_nil];rfl
 | m::more,kvs,h=>by
  show mergeK (putK kvs m.1 m.2) more=_
  have hn:valV kvs m.1=none:=by
   cases e:valV kvs m.1 with
   | none=>rfl
   | some u=>
    obtain ⟨q,hq,e⟩:=List.mem_map.mp (valV_in e)
    exact absurd e ((List.pairwise_append.mp h).2.2 q hq m (List.mem_cons_self ..))
  rw[Zgm _ hn]
  have e:kvs++m::more=(kvs++[(m.1,m.2)])++more:=by simp
  rw[Zbu more _ (by rw[← e];exact h),e]
theorem Zgi {R:Addr→Nat×Cells→Prop} {cs:List Addr} {ss:List (Nat×Cells)} (h:Paired R cs ss):Inc ss→(snK cs ss).Pairwise (fun a b=>a.1≠b.1):=by
 intro hi
 rw[List.pairwise_iff_getElem]
 intro i j hi1 hj1 hij e
 have e1:(snK cs ss)[i]?=some ((snK cs ss)[i].1,(snK cs ss)[i].2):=List.getElem?_eq_getElem hi1
 have e2:(snK cs ss)[j]?=some ((snK cs ss)[j].1,(snK cs ss)[j].2):=List.getElem?_eq_getElem hj1
 obtain ⟨_,s1,_,h1,k1,_⟩:=sn_at e1
 obtain ⟨_,s2,_,h2,k2,_⟩:=sn_at e2
 rw[k1,k2] at e
 injection e with e
 obtain ⟨l1,g1⟩:=List.getElem?_eq_some_iff.mp h1
 obtain ⟨l2,g2⟩:=List.getElem?_eq_some_iff.mp h2
 have:=(List.pairwise_iff_getElem.mp hi) i j l1 l2 hij
 rw[g1,g2] at this
 omega
section
variable {C CS:Addr} {H:Hp} {p:Addr} {a:Ad} {sas:List Addr} {v:Window Cells} {late:List (List Nat)} {seed:Int}
theorem SeAt.newsn (h:SeAt C CS H p a sas v late seed) {n dx:Addr} (hn:H n=none) {cs':List Addr} {ss':List (Nat×Cells)} (hp:Paired (fun (b:Addr) (s:Nat×Cells)=>LI (res H (mset p a sas)) b s.2) cs' ss') :
  SeAt C CS (upd (upd H n (.dK (snK cs' ss'))) p (.ins C dx (seF { v with snaps:=ss' } { a with ds:=n }))) p { a with ds:=n } sas { v with snaps:=ss' } late seed ∧
  Fr H (mset p a sas) (upd (upd H n (.dK (snK cs' ss'))) p (.ins C dx (seF { v with snaps:=ss' } { a with ds:=n }))) (mset p { a with ds:=n } sas):=by
 obtain ⟨dx0,h1⟩:=h.ob
 obtain ⟨ks,h2,h3⟩:=h.kp
 have nm:=h.new hn
 have np:p≠n:=Z6 h1 hn
 have fr:Fr H (mset p a sas) (upd (upd H n (.dK (snK cs' ss'))) p (.ins C dx (seF { v with snaps:=ss' } { a with ds:=n }))) (mset p { a with ds:=n } sas):=by
  intro b o e
  obtain ⟨e1,e2⟩:=Uc e
  have bn:b≠n:=Z6 e1 hn
  have hb:b≠p∧b≠a.ls∧b≠a.dk∧b≠a.dl∧b ∉ sas:=by
   simp only[List.mem_cons,not_or] at e2
   exact ⟨e2.1,e2.2.1,e2.2.2.1,e2.2.2.2.1,e2.2.2.2.2.2⟩
  refine Y3 (by rw[Z8 hb.1,Z8 bn];exact e1) ?_
  simp only[List.mem_cons,not_or]
  exact ⟨hb.1,hb.2.1,hb.2.2.1,hb.2.2.2.1,bn,hb.2.2.2.2⟩
 have s1:StaysAt CS (upd H n (.dK (snK cs' ss'))) a.ls sas v.stays:=h.st.same (Same.new hn)
 refine ⟨⟨⟨dx,Z2⟩,Ws s1 h.p_ls h.p_sas,⟨ks,Zm (Zm h2 (Z6 h2 hn)) h.p_dk,h3⟩,Zm (Zm h.lt (Z6 h.lt hn)) h.p_dl,⟨cs',Zm Z2 np.symm,?_⟩,?_,?_,?_⟩,fr⟩
 ·exact Paired.mapP hp fun _ _ r=>fr _ _ r
 ·exact h.ct.same fr
 ·exact fr _ _ h.b0
 ·exact fr _ _ h.cl
end
section
variable {P:Program} {w:World} {K:PySem.W.Frag} {mg:Str→Option Value} {base:Heap}
noncomputable def settled' (v:Window Cells):Nat:=max v.settled (v.now-v.rules.open_)
def Z2n (T:TX K mg):Sp:=fun vs H Q _=>∃ (p:Addr) (a:Ad) (sas:List Addr) (v:Window Cells) (late:List (List Nat)) (seed:Int) (k:Nat) (w:Cells),vs=[.ref p]∧Se T H p a sas v late seed∧Inc v.snaps∧v.snaps.length≤1000∧Vbwsaf.snapFor { v with settled:=settled' v } (settled' v)=some (k,w) ∧
 ∀ H' a',Se T H' p a' sas (Vbwsaf.settle v) late seed→Fr H (mset p a sas) H' (mset p a' sas)→Q .non H'
theorem Uv (T:TX K mg):FnOk P w K mg base CX0 2 T.Yq.f T.Yq.d ["self"] (Z2n T):=by
 refine T.Yq.F.ok Yt (fun vs H Q E h=>?_) (fun cdv A outer s H vs Q E hr h=>?_)
 ·obtain ⟨p,a,sas,v,late,seed,k0,w0,rfl,_⟩:=h
  rfl
 ·obtain ⟨p,a,sas,v,late,seed,k0,w0,rfl,hS,hinc,hlen,hsf,k⟩:=h
  refine ⟨_,(Z4 (Yu (pv 0) (Zu (Z5l rfl) rfl T.b_max Zcg (Z0 (Za (pv 0) rfl) (Z0 (pe_op Z6x (Za (pv 0) rfl) (Za (pv 0) rfl)) Z3))) rfl)
   (Z4 (Zy (i:=1) Yt.nd rfl (Or.inr rfl) (Yf (pv 0) T.Z1 T.Zg.M (Yj T) (hr.mono (by decide)) T.Zg.b .nil pass0 (Z0 (Za (pv 0) rfl) Z3)))
   (Z5 (Yu (pv 0) (Z06 (Zds rfl) rfl T.b_dict bt_dict (Z0 (Zan (pe_lc (own:=[("tick",2),("cells",3)]) rfl Yt.nd (Zgs (Za (pv 0) rfl)) (Xw rfl) (fun _ _ _ _ _=>(pg_tupK (K:=K) (n:=2) rfl (Z3w (Y4 (i:=2) Yt.nd rfl (Or.inl rfl)) (Z3w (Y4 (i:=3) Yt.nd rfl (Or.inl rfl)) Zex)))) (fun _ _ _ _ _=>(Z83 (Zr op_ge (pv 2) (pv 1) (Y8 _)))) (fun _ _ _ _ _=>(Z4s (Z0 (pv 2) (Z0 (pv 3) Z3)))))) Z3)) rfl)))),?_⟩
  obtain ⟨dx,ho⟩:=hS.ob
  refine ⟨_,rfl,p,_,dx,_,_,rfl,ho,T.Z1,T.Zn,rfl,_,rfl,p,_,dx,_,_,rfl,ho,T.Z1,T.Zh,rfl,_,rfl,p,_,dx,_,_,rfl,ho,T.Z1,T.U4,rfl,_,_,rfl,rfl,_,_,rfl,?_⟩
  have em:(if (v.now:Int)-(v.rules.open_:Int)>(v.settled:Int) then (v.now:Int)-(v.rules.open_:Int) else (v.settled:Int))=((settled' v:Nat):Int):=by
   unfold settled'
   split <;> omega
  rw[em]
  refine ⟨_,rfl,p,_,dx,_,rfl,ho,T.Z1,T.Zn,(by show 14<1000;decide),?_⟩
  have ef:putF "settled" (V.int ((settled' v:Nat):Int)) (seF v a)=seF { v with settled:=settled' v } a:=rfl
  rw[ef]
  have hS1:=hS.fld (dx:=dx) (c':=a.c) (v':={ v with settled:=settled' v }) rfl rfl rfl rfl hS.cl
  have f1:Fr H (mset p a sas) (upd H p (.ins T.cSession dx (seF { v with settled:=settled' v } a))) (mset p a sas):=Fr.upd (by simp)
  have ho1:upd H p (.ins T.cSession dx (seF { v with settled:=settled' v } a)) p=some (.ins T.cSession dx (seF { v with settled:=settled' v } a)):=Z2
  refine ⟨_,rfl,p,dx,_,rfl,ho1,rfl,_,rfl,p,_,dx,_,_,rfl,ho1,T.Z1,T.Zn,rfl,p,a,sas,{ v with settled:=settled' v },late,seed,settled' v,k0,w0,rfl,hS1,hinc,hlen,hsf,fun H2 s2=>?_⟩
  have hS2:=SeAt.same hS1 s2
  have ho2:=s2 _ _ ho1
  have f2:=f1.trans (Fr.of s2)
  obtain ⟨cs,hd,hp⟩:=hS2.sn
  refine ⟨a.ds,_,hd,trivial,fun od=>?_⟩
  have ho3:=Zm (o:=.frz od (.dK (snK cs v.snaps))) ho2 hS2.p_ds.symm
  refine ⟨_,rfl,p,_,dx,_,_,rfl,ho3,T.Z1,T.Zo,rfl,a.ds,od,_,rfl,Z2,fun D hD=>?_⟩
  refine Zfd (J:=Iti a.ds od (snK cs v.snaps)) (n:=v.snaps.length) (fun i H'=>Same (upd H2 a.ds (.frz od (.dK (snK cs v.snaps)))) H'∧∃ ps cs':List Addr,H' D=some (.lst (ps.map V.ref))∧Paired (fun (b:Addr) (s:Nat×Cells)=>LI (res H2 (mset p a sas)) b s.2) cs' ((v.snaps.take i).filter fun s=>decide (k0≤s.1))∧Paired (fun (q:Addr) (kv:Key×V)=>H' q=some (.tup [kV kv.1,kv.2])) ps (snK cs' ((v.snaps.take i).filter fun s=>decide (k0≤s.1))))
   ⟨Same.new hD,[],[],Z2,.nil,.nil⟩ (fun i H' hi q=>⟨q.1 _ _ Z2,by rw[Z4a hp];exact hi⟩) (fun H' q=>⟨q.1 _ _ Z2,by rw[Z4a hp];exact Nat.le_refl _⟩) ?_ ?_
  ·rintro i H3 x1 H4 hi ⟨s3,ps,cs',h1,h2,h3⟩ ⟨t0,kk,u,hku,rfl,ht0,rfl⟩
   obtain ⟨b,s,hb,hs,rfl,rfl⟩:=sn_at hku
   have s4:=Same.new (o:=.tup [kV (Sum.inl (s.1:Int)),V.ref b]) ht0
   have hpl:ps.length≤i:=by
    rw[Paired.length h3,Z4a h2]
    have:=List.length_filter_le (fun s:Nat×Cells=>decide (k0≤s.1)) (v.snaps.take i)
    rw[List.length_take] at this
    omega
   refine ⟨t0,_,rfl,SqT.of Z2,rfl,_,_,rfl,_,_,rfl,rfl,rfl,_,rfl,_,rfl,_,_,rfl,rfl,_,rfl,?_⟩
   rw[J4 _ hs]
   refine ite2 (fun z=>?_) (fun z=>?_)
   ·have z:decide (k0≤s.1)=true:=decide_eq_true (by have:=of_decide_eq_true z;omega)
    rw[if_pos z]
    refine ⟨_,rfl,_,rfl,(by show 2≤sizeLine;decide),fun q hq=>?_⟩
    have s5:=s4.trans (Same.new (o:=.tup [V.int (s.1:Int),V.ref b]) hq)
    have hD5:=s5 _ _ h1
    obtain ⟨b',hb',rb⟩:=Y5 hp hb
    rw[hs] at hb'
    cases hb'
    refine ⟨_,hD5,by rw[List.length_map,sizeLine_eq];omega,Wa (s3.trans s5) hD,ps++[q],cs'++[b],by rw[Z2,List.map_append];rfl,Xq h2 rb,?_⟩
    rw[Zgh h2]
    refine Xq (Paired.mapP h3 fun _ _ r=>?_) ?_
    ·exact Ys hD5 _ _ (s5 _ _ r)
    ·exact Ys hD5 _ _ Z2
   ·have z:¬ decide (k0≤s.1)=true:=fun e=>z (decide_eq_true (by have:=of_decide_eq_true e;omega))
    rw[if_neg z,List.append_nil]
    exact ⟨s3.trans s4,ps,cs',s4 _ _ h1,h2,Paired.mapP h3 fun _ _ r=>s4 _ _ r⟩
  ·rintro H3 ⟨s3,ps,cs',h1,h2,h3⟩
   rw[List.take_length] at h2 h3
   have hfz:=s3 _ _ Z2
   refine ⟨hfz,?_⟩
   have s4:=Z1h hd s3
   have hDd:D≠a.ds:=fun e=>by rw[e,Z2] at hD;cases hD
   have tp:∀ b xs,H3 b=some (.tup xs)→upd H3 a.ds (.dK (snK cs v.snaps)) b=some (.tup xs):=fun b xs e=>by rw[Z8 (ne_of e hfz (fun z=>nomatch z))];exact e
   refine ⟨D,ps,_,rfl,SqL.of (by rw[Z8 hDd];exact h1),Paired.mapP h3 fun _ _ r=>SqT.of (tp _ _ r),fun n hn=>?_⟩
   have hi2:Inc (v.snaps.filter fun s=>decide (k0≤s.1)):=hinc.filter _
   rw[Zbu _ [] (by rw[List.nil_append];exact Zgi h2 hi2),List.nil_append]
   have ho4:=s4 _ _ ho2
   refine ⟨_,rfl,p,_,dx,_,rfl,(Same.new hn) _ _ ho4,T.Z1,T.Zo,(by show 14<1000;decide),?_⟩
   have hS4:=SeAt.same hS2 s4
   obtain ⟨r1,r2⟩:=SeAt.newsn (dx:=dx) hS4 hn (Paired.mapP h2 fun _ _ r=>Z3v s4 _ _ r)
   have es:Vbwsaf.settle v={ v with settled:=settled' v,snaps:=v.snaps.filter fun s=>decide (k0≤s.1) }:=by
    show Vbwsaf.pruned { v with settled:=settled' v }=_
    unfold Vbwsaf.pruned
    dsimp only
    rw[hsf]
   rw[es] at k
   exact k _ _ r1 ((f2.trans (Fr.of s4)).trans r2)
end
end Pr
end
section
namespace Pr
open Vbwsaf (Input Deed Stay Window Cells)
noncomputable def tk (f n e:Nat):List Nat:=(List.range (n+1)).filter fun t=>decide (f≤t∧t%e=0)
theorem Wr {f n e t:Nat}:t∈tk f n e↔t≤n∧f≤t∧t%e=0:=by
 unfold tk
 rw[List.mem_filter,List.mem_range,decide_eq_true_eq]
 omega
theorem tk_inc {f n e:Nat} {ss:List (Nat×Cells)} (h:ss.map (·.1)=tk f n e):Inc ss:=by
 have:(ss.map (·.1)).Pairwise (·<·):=by rw[h];exact List.pairwise_lt_range.filter _
 rw[List.pairwise_map] at this
 exact this
theorem Zft (f:Nat) (q:Nat→Bool) (hq:∀ t,q t=true→f≤t):∀ n,((List.range n).filter q).length≤n-f
 | 0=>by simp
 | n+1=>by
  rw[List.range_succ,List.filter_append,List.length_append]
  have ih:=Zft f q hq n
  by_cases h:q n=true
  ·have:=hq n h
   simp[h]
   omega
  ·simp[h]
   omega
theorem tk_len (f n e:Nat):(tk f n e).length≤n+1-f:=Zft f _ (fun t h=>(of_decide_eq_true h).1) (n+1)
structure SN (v:Window Cells):Prop where
 ev:1≤v.rules.every
 sn:v.settled≤v.now
 f:∃ f,f%v.rules.every=0∧f≤v.settled∧v.settled<f+v.rules.every∧v.snaps.map (·.1)=tk f v.now v.rules.every
theorem SN.inc {v:Window Cells} (h:SN v):Inc v.snaps:=by obtain ⟨f,_,_,_,e⟩:=h.f;exact tk_inc e
theorem SN.len {v:Window Cells} (h:SN v):v.snaps.length≤v.now-v.settled+v.rules.every+1:=by
 obtain ⟨f,h1,h2,h3,e⟩:=h.f
 have:=congrArg List.length e
 rw[List.length_map] at this
 have:=tk_len f v.now v.rules.every
 have:=h.sn
 omega
theorem Z8l {ss:List (Nat×Cells)} {l:List Nat} (h:ss.map (·.1)=l) {t:Nat} (ht:t∈l):∃ w,(t,w)∈ss:=by
 rw[← h] at ht
 obtain ⟨s,hs,rfl⟩:=List.mem_map.mp ht
 exact ⟨s.2,hs⟩
theorem Z0b {ss:List (Nat×Cells)} {l:List Nat} (h:ss.map (·.1)=l) {s:Nat×Cells} (hs:s∈ss):s.1∈l:=by
 rw[← h]
 exact List.mem_map.mpr ⟨s,hs,rfl⟩
theorem SN.snap {v:Window Cells} (h:SN v) {t:Nat} (h1:v.settled≤t) (h2:t≤v.now):∃ k w,Vbwsaf.snapFor v t=some (k,w)∧k%v.rules.every=0∧k≤t∧t<k+v.rules.every∧(∀ f,f%v.rules.every=0→f≤t→f≤k):=by
 obtain ⟨f,f1,f2,f3,e⟩:=h.f
 have hev:=h.ev
 have hm:=Nat.mod_lt t (show v.rules.every>0 by omega)
 have hle:t%v.rules.every≤t:=Nat.mod_le _ _
 have hmul:(t-t%v.rules.every)%v.rules.every=0:=by
  have:=Nat.div_add_mod t v.rules.every
  have e2:t-t%v.rules.every=v.rules.every*(t / v.rules.every):=by omega
  rw[e2]
  exact Nat.mul_mod_right _ _
 have big:∀ g,g%v.rules.every=0→g≤t→g≤t-t%v.rules.every:=by
  intro g g1 g2
  have a1:=Nat.div_add_mod t v.rules.every
  have a2:=Nat.div_add_mod g v.rules.every
  have a3:=Nat.div_le_div_right (c:=v.rules.every) g2
  have a4:=Nat.mul_le_mul_left v.rules.every a3
  omega
 have hfm:=big f f1 (by omega)
 obtain ⟨w,hw⟩:=Z8l e (Wr.mpr ⟨by omega,hfm,hmul⟩)
 have hin:(t-t%v.rules.every,w)∈v.snaps.filter fun x=>decide (x.1≤t):=List.mem_filter.mpr ⟨hw,decide_eq_true (by show t-t%v.rules.every≤t;omega)⟩
 cases es:Vbwsaf.snapFor v t with
 | none=>
  have:v.snaps.filter (fun x=>decide (x.1≤t))=[]:=List.getLast?_eq_none_iff.mp es
  rw[this] at hin
  cases hin
 | some x=>
  obtain ⟨k,w'⟩:=x
  obtain ⟨m1,m2⟩:=Z7s es
  have m3:=Wr.mp (Z0b e m1)
  have hmk:t-t%v.rules.every≤k:=by
   rcases Zbe h.inc es hw (by show t-t%v.rules.every≤t;omega) with r | r
   ·injection r with r _;omega
   ·have r:t-t%v.rules.every<k:=r;omega
  exact ⟨k,w',rfl,m3.2.2,m2,by omega,fun g g1 g2=>Nat.le_trans (big g g1 g2) hmk⟩
theorem tk_cut {f k n e:Nat} (h:f≤k):(tk f n e).filter (fun t=>decide (k≤t))=tk k n e:=by
 unfold tk
 rw[List.filter_filter]
 congr 1
 funext t
 rw[Bool.eq_iff_iff]
 simp only[Bool.and_eq_true,decide_eq_true_eq]
 omega
theorem SN.settle {v:Window Cells} (h:SN v):(∃ k w,Vbwsaf.snapFor { v with settled:=settled' v } (settled' v)=some (k,w))∧SN (Vbwsaf.settle v)∧(Vbwsaf.settle v).settled=settled' v∧(Vbwsaf.settle v).now=v.now∧(Vbwsaf.settle v).rules=v.rules∧(Vbwsaf.settle v).all=v.all∧(Vbwsaf.settle v).stays=v.stays∧(Vbwsaf.settle v).head=v.head∧(∀ s∈(Vbwsaf.settle v).snaps,s∈v.snaps):=by
 have hs1:v.settled≤settled' v:=Nat.le_max_left _ _
 have hs2:settled' v≤v.now:=by
  have:=h.sn
  unfold settled'
  omega
 obtain ⟨k,w,e1,e2,e3,e4,e5⟩:=h.snap hs1 hs2
 have e1':Vbwsaf.snapFor { v with settled:=settled' v } (settled' v)=some (k,w):=e1
 have es:Vbwsaf.settle v={ v with settled:=settled' v,snaps:=v.snaps.filter fun s=>decide (k≤s.1) }:=by
  show Vbwsaf.pruned { v with settled:=settled' v }=_
  unfold Vbwsaf.pruned
  dsimp only
  rw[e1']
 refine ⟨⟨k,w,e1'⟩,?_⟩
 rw[es]
 refine ⟨⟨h.ev,hs2,k,e2,e3,e4,?_⟩,rfl,rfl,rfl,rfl,rfl,rfl,fun s hs=>(List.mem_filter.mp hs).1⟩
 obtain ⟨f,f1,f2,f3,e⟩:=h.f
 show (v.snaps.filter fun s=>decide (k≤s.1)).map (·.1)=tk k v.now v.rules.every
 rw[← tk_cut (e5 f f1 (by omega)),← e,List.filter_map]
 rfl
theorem Zfn {ss:List (Nat×Cells)} (k:Nat):Inc ss→ss.filter (fun s=>decide (s.1≤k))++ss.filter (fun s=>decide (k<s.1))=ss:=by
 induction ss with
 | nil=>intro _;rfl
 | cons s ss ih=>
  intro h
  obtain ⟨h1,h2⟩:=List.pairwise_cons.mp h
  by_cases hk:s.1≤k
  ·rw[List.filter_cons_of_pos (by simpa using hk),List.filter_cons_of_neg (by simp;omega),List.cons_append,ih h2]
  ·rw[List.filter_cons_of_neg (by simpa using hk),List.filter_cons_of_pos (by simp;omega)]
   have e1:ss.filter (fun s=>decide (s.1≤k))=[]:=List.filter_eq_nil_iff.mpr fun x hx=>by have:=h1 x hx;simp;omega
   have e2:ss.filter (fun s=>decide (k<s.1))=ss:=List.filter_eq_self.mpr fun x hx=>by have:=h1 x hx;simp;omega
   rw[e1,e2]
   rfl
theorem inc_at {ss:List (Nat×Cells)} {t:Nat} {o:Cells}:Inc ss→(t,o)∈ss→ss.filter (fun s=>decide (t≤s.1))=(t,o)::ss.filter (fun s=>decide (t<s.1)):=by
 induction ss with
 | nil=>intro _ h;cases h
 | cons s ss ih=>
  intro h hm
  obtain ⟨h1,h2⟩:=List.pairwise_cons.mp h
  rcases List.mem_cons.mp hm with e | hm
  ·subst e
   have e1:ss.filter (fun s=>decide (t≤s.1))=ss:=List.filter_eq_self.mpr fun x hx=>by have h:t<x.1:=h1 x hx;simp;omega
   have e2:ss.filter (fun s=>decide (t<s.1))=ss:=List.filter_eq_self.mpr fun x hx=>by have h:t<x.1:=h1 x hx;simp;omega
   rw[List.filter_cons_of_pos (by simp),List.filter_cons_of_neg (by simp),e1,e2]
  ·have:=h1 _ hm
   have h3:s.1<t:=this
   rw[List.filter_cons_of_neg (by simp;omega),List.filter_cons_of_neg (by simp;omega)]
   exact ih h2 hm
theorem Zgl {A B:List (Nat×Cells)} {t:Nat} {o w:Cells} (h1:∀ s∈A,s.1<t) (h2:∀ s∈B,t<s.1):putS (A++(t,o)::B) t w=A++(t,w)::B:=by
 unfold putS
 rw[if_pos (by simp),List.map_append,List.map_cons,if_pos rfl]
 congr 1
 ·conv=>rhs;rw[← List.map_id A]
  exact List.map_congr_left fun s hs=>if_neg (by have:=h1 s hs;omega)
 ·congr 1
  conv=>rhs;rw[← List.map_id B]
  exact List.map_congr_left fun s hs=>if_neg (by have:=h2 s hs;omega)
theorem Zbm {A:List (Nat×Cells)} {t:Nat} {w:Cells} (h1:∀ s∈A,s.1<t):putS A t w=A++[(t,w)]:=by
 unfold putS
 rw[if_neg]
 intro h
 obtain ⟨s,hs,e⟩:=List.any_eq_true.mp h
 have:=h1 s hs
 have:=of_decide_eq_true e
 omega
abbrev rS (v:Window Cells) (k:Nat) (w:Cells) (i:Nat):=Vbwsaf.reckonSnaps Vbwsaf.cells (Vbwsaf.deedsIn v) v.rules.every i k w
def viaR (v:Window Cells) (k:Nat) (w:Cells) (i:Nat):Window Cells:={ v with head:=(rS v k w i).2,snaps:=v.snaps.filter (fun s=>decide (s.1≤k))++((rS v k w i).1++v.snaps.filter (fun s=>decide (k+i<s.1))) }
theorem Z7e {v:Window Cells} (h:Inc v.snaps) (k:Nat) (w:Cells):viaR v k w 0={ v with head:=w }:=by
 unfold viaR
 show ({ v with head:=w,snaps:=v.snaps.filter (fun s=>decide (s.1≤k))++([]++v.snaps.filter (fun s=>decide (k<s.1))) }:Window Cells)=_
 rw[List.nil_append,Zfn k h]
theorem rS_keys (v:Window Cells) (k:Nat) (w:Cells) (i:Nat) {s:Nat×Cells} (hs:s∈(rS v k w i).1):k<s.1∧s.1≤k+i:=by
 have h:=Z0b (Li.Ut Vbwsaf.cells (Vbwsaf.deedsIn v) v.rules.every i k w) hs
 obtain ⟨j,hj,e⟩:=List.mem_map.mp (List.mem_filter.mp h).1
 have:=List.mem_range.mp hj
 omega
theorem Z7f {v:Window Cells} (h:SN v) {k:Nat} {w:Cells} (hm:(k,w)∈v.snaps) {i:Nat} (hi:k+i<v.now):stepR (viaR v k w i) (k+i+1)=viaR v k w (i+1):=by
 obtain ⟨f,f1,f2,f3,e⟩:=h.f
 have hkf:=Wr.mp (Z0b e hm)
 have sn:rS v k w (i+1)=((rS v k w i).1++(if (k+i+1)%v.rules.every=0 then [(k+i+1,Vbwsaf.cells (rS v k w i).2 (k+i+1) (Vbwsaf.deedsIn v (k+i+1)))] else []),Vbwsaf.cells (rS v k w i).2 (k+i+1) (Vbwsaf.deedsIn v (k+i+1))):=Li.Jh Vbwsaf.cells (Vbwsaf.deedsIn v) v.rules.every i k w
 have e1:viaR v k w (i+1)={ v with head:=Vbwsaf.cells (rS v k w i).2 (k+i+1) (Vbwsaf.deedsIn v (k+i+1)),snaps:=v.snaps.filter (fun s=>decide (s.1≤k))++(((rS v k w i).1++(if (k+i+1)%v.rules.every=0 then [(k+i+1,Vbwsaf.cells (rS v k w i).2 (k+i+1) (Vbwsaf.deedsIn v (k+i+1)))] else []))++v.snaps.filter (fun s=>decide (k+(i+1)<s.1))) }:=by
  unfold viaR
  rw[sn]
 rw[e1]
 show ({ v with head:=Vbwsaf.cells (rS v k w i).2 (k+i+1) (Vbwsaf.deedsIn v (k+i+1)),snaps:=if (k+i+1)%v.rules.every=0 then putS (viaR v k w i).snaps (k+i+1) (Vbwsaf.cells (rS v k w i).2 (k+i+1) (Vbwsaf.deedsIn v (k+i+1))) else (viaR v k w i).snaps }:Window Cells)=_
 have eB:(fun (s:Nat×Cells)=>decide (k+i<s.1))=fun s=>decide (k+i+1≤s.1):=by
  funext s
  rw[Bool.eq_iff_iff,decide_eq_true_eq,decide_eq_true_eq]
  omega
 by_cases hz:(k+i+1)%v.rules.every=0
 ·rw[if_pos hz,if_pos hz]
  obtain ⟨o,ho⟩:=Z8l e (Wr.mpr ⟨(show k+i+1≤v.now by omega),(by omega),hz⟩)
  have e2:(viaR v k w i).snaps=(v.snaps.filter (fun s=>decide (s.1≤k))++(rS v k w i).1)++(k+i+1,o)::v.snaps.filter (fun s=>decide (k+i+1<s.1)):=by
   show v.snaps.filter (fun s=>decide (s.1≤k))++((rS v k w i).1++v.snaps.filter (fun s=>decide (k+i<s.1)))=_
   rw[eB,inc_at h.inc ho,List.append_assoc]
  rw[e2,Zgl]
  ·congr 1
   simp only[List.append_assoc,List.singleton_append]
   rfl
  ·intro s hs
   rcases List.mem_append.mp hs with hs | hs
   ·have:=of_decide_eq_true (List.mem_filter.mp hs).2;omega
   ·have:=rS_keys v k w i hs;omega
  ·intro s hs
   exact of_decide_eq_true (List.mem_filter.mp hs).2
 ·rw[if_neg hz,if_neg hz,List.append_nil]
  have e3:v.snaps.filter (fun s=>decide (k+i<s.1))=v.snaps.filter (fun s=>decide (k+(i+1)<s.1)):=by
   refine List.filter_congr fun s hs=>?_
   have hk:=(Wr.mp (Z0b e hs)).2.2
   rw[Bool.eq_iff_iff,decide_eq_true_eq,decide_eq_true_eq]
   constructor
   ·intro q
    have:s.1≠k+i+1:=fun z=>hz (by rw[← z];exact hk)
    omega
   ·omega
  show ({ v with head:=_,snaps:=v.snaps.filter (fun s=>decide (s.1≤k))++((rS v k w i).1++v.snaps.filter (fun s=>decide (k+i<s.1))) }:Window Cells)=_
  rw[e3]
theorem via_end {v:Window Cells} (h:SN v) {k t:Nat} {w:Cells} (hs:Vbwsaf.snapFor v (t-1)=some (k,w)) (hk:k≤v.now):Vbwsaf.again Vbwsaf.cells v t=(viaR v k w (v.now-k),v.now-k):=by
 obtain ⟨f,f1,f2,f3,e⟩:=h.f
 unfold Vbwsaf.again
 rw[hs]
 have e1:v.snaps.filter (fun s=>decide (k+(v.now-k)<s.1))=[]:=List.filter_eq_nil_iff.mpr fun s hs=>by
  have:=(Wr.mp (Z0b e hs)).1
  simp
  omega
 show ({ v with snaps:=v.snaps.filter (fun s=>decide (s.1≤k))++(rS v k w (v.now-k)).1,head:=(rS v k w (v.now-k)).2 },v.now-k)=(viaR v k w (v.now-k),v.now-k)
 unfold viaR
 rw[e1,List.append_nil]
theorem Z7g {v:Window Cells} (h:SN v) {k:Nat} {w:Cells} (hm:(k,w)∈v.snaps):∀ i,k+i≤v.now→(viaR v k w i).snaps.map (·.1)=v.snaps.map (·.1)
 | 0,_=>by rw[Z7e h.inc]
 | i+1,hi=>by
  have ih:=Z7g h hm i (by omega)
  rw[← Z7f h hm (by omega)]
  obtain ⟨f,f1,f2,f3,e⟩:=h.f
  have hkf:=Wr.mp (Z0b e hm)
  show (if (k+i+1)%v.rules.every=0 then putS (viaR v k w i).snaps (k+i+1) _ else (viaR v k w i).snaps).map (·.1)=_
  split
  ·rename_i hz
   obtain ⟨o,ho⟩:=Z8l (ih.trans e) (Wr.mpr ⟨(show k+i+1≤v.now by omega),(by omega),hz⟩)
   unfold putS
   rw[if_pos (List.any_eq_true.mpr ⟨_,ho,decide_eq_true rfl⟩),List.map_map,← ih]
   refine List.map_congr_left fun s _=>?_
   show (if s.1=k+i+1 then (k+i+1,_) else s).1=s.1
   split
   ·rename_i z;exact z.symm
   ·rfl
  ·exact ih
theorem SN.via {v:Window Cells} (h:SN v) {k:Nat} {w:Cells} (hm:(k,w)∈v.snaps) (i:Nat) (hi:k+i≤v.now):SN (viaR v k w i):=by
 obtain ⟨f,f1,f2,f3,e⟩:=h.f
 exact ⟨h.ev,h.sn,f,f1,f2,f3,(Z7g h hm i hi).trans e⟩
theorem W0.stepR {v:Window Cells} (h:W0 v) (t:Nat):W0 (stepR v t):=by
 refine { h with hd:=Z2f _ _ _,sc:=?_ }
 intro s hs
 have hs:s∈(if t%v.rules.every=0 then putS v.snaps t (Vbwsaf.cells v.head t (Vbwsaf.deedsIn v t)) else v.snaps):=hs
 split at hs
 ·unfold putS at hs
  split at hs
  ·obtain ⟨s',hs',rfl⟩:=List.mem_map.mp hs
   split
   ·exact Z2f _ _ _
   ·exact h.sc _ hs'
  ·rcases List.mem_append.mp hs with hs | hs
   ·exact h.sc _ hs
   ·have:s=(t,Vbwsaf.cells v.head t (Vbwsaf.deedsIn v t)):=by simpa using hs
    rw[this]
    exact Z2f _ _ _
 ·exact h.sc _ hs
theorem W0.via {v:Window Cells} (h:W0 v) (hs:SN v) {k:Nat} {w:Cells} (hm:(k,w)∈v.snaps):∀ i,k+i≤v.now→W0 (viaR v k w i)
 | 0,_=>by
  rw[Z7e hs.inc]
  exact { h with hd:=h.sc _ hm }
 | i+1,hi=>by
  rw[← Z7f hs hm (by omega)]
  exact (W0.via h hs hm i (by omega)).stepR _
def tick1 (v:Window Cells):Window Cells:=stepR { v with now:=v.now+1 } (v.now+1)
theorem Za2 {v:Window Cells} (h:SN v):Vbwsaf.tick Vbwsaf.cells v=Vbwsaf.settle (tick1 v):=by
 obtain ⟨f,f1,f2,f3,e⟩:=h.f
 have hp:=Zbm (A:=v.snaps) (t:=v.now+1) (w:=Vbwsaf.cells v.head (v.now+1) (Vbwsaf.deedsIn v (v.now+1))) (fun s hs=>by have:=(Wr.mp (Z0b e hs)).1;omega)
 unfold Vbwsaf.tick tick1 Pr.stepR
 show Vbwsaf.settle _=Vbwsaf.settle { v with now:=v.now+1,head:=Vbwsaf.cells v.head (v.now+1) (Vbwsaf.deedsIn v (v.now+1)),snaps:=if (v.now+1)%v.rules.every=0 then putS v.snaps (v.now+1) (Vbwsaf.cells v.head (v.now+1) (Vbwsaf.deedsIn v (v.now+1))) else v.snaps }
 rw[hp]
theorem Z7k {v:Window Cells} (h:SN v):SN (tick1 v):=by
 obtain ⟨f,f1,f2,f3,e⟩:=h.f
 have hp:=Zbm (A:=v.snaps) (t:=v.now+1) (w:=Vbwsaf.cells v.head (v.now+1) (Vbwsaf.deedsIn v (v.now+1))) (fun s hs=>by have:=(Wr.mp (Z0b e hs)).1;omega)
 have hsn:=h.sn
 refine ⟨h.ev,(show v.settled≤v.now+1 by omega),f,f1,f2,f3,?_⟩
 show (if (v.now+1)%v.rules.every=0 then putS v.snaps (v.now+1) (Vbwsaf.cells v.head (v.now+1) (Vbwsaf.deedsIn v (v.now+1))) else v.snaps).map (·.1)=tk f (v.now+1) v.rules.every
 have et:tk f (v.now+1) v.rules.every=tk f v.now v.rules.every++(if (v.now+1)%v.rules.every=0 then [v.now+1] else []):=by
  unfold tk
  rw[List.range_succ,List.filter_append,List.filter_cons,List.filter_nil]
  congr 1
  by_cases z:(v.now+1)%v.rules.every=0
  ·rw[if_pos z,if_pos (decide_eq_true ⟨by omega,z⟩)]
  ·rw[if_neg z,if_neg (fun q=>z (of_decide_eq_true q).2)]
 rw[et]
 split
 ·rw[hp,List.map_append,e];rfl
 ·rw[e,List.append_nil]
structure W1 (v:Window Cells):Prop where
 w0:W0 v
 sn:SN v
 nw:v.now≤400
 ws:v.now≤v.settled+16
 op:v.stays.Pairwise fun s s'=>¬ (s.player=s'.player∧s.last=none∧s'.last=none)
theorem W1.len {v:Window Cells} (h:W1 v):v.snaps.length≤25:=by
 have:=h.sn.len
 have:=h.ws
 have:=h.w0.ev
 have:=h.sn.sn
 omega
theorem W1.settle {v:Window Cells} (h0:W0 v) (h1:SN v) (h2:v.now≤400) (h3:v.stays.Pairwise fun s s'=>¬ (s.player=s'.player∧s.last=none∧s'.last=none)):W1 (Vbwsaf.settle v):=by
 obtain ⟨_,a1,a2,a3,a4,a5,a6,a7,a8⟩:=h1.settle
 refine ⟨⟨by rw[a4];exact h0.o1,by rw[a4];exact h0.ah,by rw[a4];exact h0.mo,by rw[a4];exact h0.ho,by rw[a4];exact h0.ev,by rw[a5];exact h0.ord,by rw[a5];exact h0.al,by rw[a5];exact h0.inb,by rw[a6];exact h0.sl,by rw[a7];exact h0.hd,fun s hs=>h0.sc s (a8 s hs)⟩,a1,by rw[a3];exact h2,?_,by rw[a6];exact h3⟩
 rw[a2,a3]
 have:=h0.o1
 unfold settled'
 omega
theorem W1.tick {v:Window Cells} (h:W1 v) (hn:v.now<400):W1 (Vbwsaf.tick Vbwsaf.cells v):=by
 rw[Za2 h.sn]
 have w:W0 { v with now:=v.now+1 }:={ h.w0 with }
 exact W1.settle (w.stepR _) (Z7k h.sn) (show v.now+1≤400 by omega) h.op
theorem Zbc {v:Window Cells} (h:SN v):(Vbwsaf.tick Vbwsaf.cells v).now=v.now+1:=by
 rw[Za2 h]
 obtain ⟨_,a1,a2,a3,_⟩:=(Z7k h).settle
 rw[a3]
 rfl
theorem W1.resized {v:Window Cells} (h:W1 v) {n:Nat} (h1:1≤n) (h2:n≤16):W1 (Vbwsaf.resized v n):=by
 refine W1.settle (v:={ v with rules:={ v.rules with open_:=n } }) { h.w0 with o1:=⟨h1,h2⟩ } ?_ h.nw h.op
 obtain ⟨f,f1,f2,f3,e⟩:=h.sn.f
 exact ⟨h.sn.ev,h.sn.sn,f,f1,f2,f3,e⟩
end Pr
end
section
namespace Pr
open PySem PySem.Spec PyProof.Rows L2
open Vbwsaf (Input Deed Stay Window Cells)
section
variable {P:Program} {w:World} {K:PySem.W.Frag} {mg:Str→Option Value} {base:Heap}
def Z0w (T:TX K mg):Sp:=fun vs H Q _=>∃ (p:Addr) (a:Ad) (sas:List Addr) (v:Window Cells) (late:List (List Nat)) (seed:Int),vs=[.ref p]∧Se T H p a sas v late seed∧W1 v∧v.now<400 ∧
 ∀ H' a',Se T H' p a' sas (Vbwsaf.tick Vbwsaf.cells v) late seed→Fr H (mset p a sas) H' (mset p a' sas)→Q .non H'
theorem Jm (T:TX K mg):FnOk P w K mg base CX0 8 T.Y7.f T.Y7.d ["self"] (Z0w T):=by
 refine T.Y7.F.ok Z0x (fun vs H Q E h=>?_) (fun cdv A outer s H vs Q E hr h=>?_)
 ·obtain ⟨p,a,sas,v,late,seed,rfl,_⟩:=h
  rfl
 ·obtain ⟨p,a,sas,v,late,seed,rfl,hS,hW,hn,k⟩:=h
  refine ⟨_,(Z4 (Zet (pv 0) Z9 in_add)
   (Z4 (Zx (Yf (pv 0) T.Z1 T.Yr.M (Uw T) (hr.mono (by decide)) T.Yr.b .nil pass0 (Z0 (Za (pv 0) rfl) Z3)))
   (Z5 (Zx (Jq (pv 0) T.Z1 T.Yq.M (Uv T) (hr.mono (by decide)) T.Yq.b .nil pass0))))),?_⟩
  obtain ⟨dx,ho⟩:=hS.ob
  refine ⟨_,rfl,p,_,dx,_,_,rfl,ho,T.Z1,T.Zh,rfl,_,_,rfl,rfl,dx,_,ho,(by show 14<1000;decide),?_⟩
  have ef:putF "made" (V.int ((v.now:Int)+1)) (seF v a)=seF { v with now:=v.now+1 } a:=rfl
  rw[ef]
  have hS1:=hS.fld (dx:=dx) (c':=a.c) (v':={ v with now:=v.now+1 }) rfl rfl rfl rfl hS.cl
  have f1:Fr H (mset p a sas) (upd H p (.ins T.cSession dx (seF { v with now:=v.now+1 } a))) (mset p a sas):=Fr.upd (by simp)
  have ho1:upd H p (.ins T.cSession dx (seF { v with now:=v.now+1 } a)) p=some (.ins T.cSession dx (seF { v with now:=v.now+1 } a)):=Z2
  refine ⟨_,rfl,p,dx,_,rfl,ho1,rfl,_,rfl,p,_,dx,_,_,rfl,ho1,T.Z1,T.Zh,rfl,p,a,sas,{ v with now:=v.now+1 },late,seed,v.now+1,rfl,hS1,{ hW.w0 with },Nat.le_trans hW.len (by decide),by omega,by omega,fun H2 a2 hS2 f2=>?_⟩
  obtain ⟨dx2,ho2⟩:=hS2.ob
  have sn1:=Z7k hW.sn
  obtain ⟨⟨k0,w0,e1⟩,_⟩:=sn1.settle
  have l1:=sn1.len
  refine ⟨_,rfl,p,dx2,_,rfl,ho2,rfl,p,a2,sas,tick1 v,late,seed,k0,w0,rfl,hS2,sn1.inc,?_,e1,fun H3 a3 hS3 f3=>?_⟩
  ·have:=hW.w0.ev
   have:(tick1 v).now=v.now+1:=rfl
   have:(tick1 v).rules=v.rules:=rfl
   rw[‹(tick1 v).now=v.now+1›,‹(tick1 v).rules=v.rules›] at l1
   omega
  ·rw[← Za2 hW.sn] at hS3
   exact k H3 a3 hS3 ((f1.trans f2).trans f3)
def Z2o (T:TX K mg):Sp:=fun vs H Q _=>∃ (p:Addr) (a:Ad) (sas:List Addr) (v:Window Cells) (late:List (List Nat)) (seed:Int) (n:Nat),vs=[.ref p,.int (n:Int)]∧Se T H p a sas v late seed∧W1 v ∧
 ∀ H' a',Se T H' p a' sas (Vbwsaf.resized v n) late seed→Fr H (mset p a sas) H' (mset p a' sas)→Q .non H'
theorem Z2v (T:TX K mg):FnOk P w K mg base CX0 3 T.Xj.f T.Xj.d ["self", "window"] (Z2o T):=by
 refine T.Xj.F.ok Z2r (fun vs H Q E h=>?_) (fun cdv A outer s H vs Q E hr h=>?_)
 ·obtain ⟨p,a,sas,v,late,seed,n,rfl,_⟩:=h
  rfl
 ·obtain ⟨p,a,sas,v,late,seed,n,rfl,hS,hW,k⟩:=h
  refine ⟨_,(Z4 (Yu (pv 0) (pv 1) rfl)
   (Z5 (Zx (Jq (pv 0) T.Z1 T.Yq.M (Uv T) (hr.mono (by decide)) T.Yq.b .nil pass0)))),?_⟩
  obtain ⟨dx,ho⟩:=hS.ob
  refine ⟨_,rfl,_,rfl,p,_,dx,_,rfl,ho,T.Z1,T.U4,(by show 14<1000;decide),?_⟩
  have ef:putF "window" (V.int (n:Int)) (seF v a)=seF { v with rules:={ v.rules with open_:=n } } a:=rfl
  rw[ef]
  have hS1:=hS.fld (dx:=dx) (c':=a.c) (v':={ v with rules:={ v.rules with open_:=n } }) rfl rfl rfl rfl hS.cl
  have f1:Fr H (mset p a sas) (upd H p (.ins T.cSession dx (seF { v with rules:={ v.rules with open_:=n } } a))) (mset p a sas):=Fr.upd (by simp)
  have sn1:SN { v with rules:={ v.rules with open_:=n } }:=by
   obtain ⟨f,f1,f2,f3,e⟩:=hW.sn.f
   exact ⟨hW.sn.ev,hW.sn.sn,f,f1,f2,f3,e⟩
  obtain ⟨⟨k0,w0,e1⟩,_⟩:=sn1.settle
  refine ⟨_,rfl,p,dx,_,rfl,Z2,rfl,p,a,sas,_,late,seed,k0,w0,rfl,hS1,sn1.inc,Nat.le_trans hW.len (by decide),e1,fun H3 a3 hS3 f3=>?_⟩
  exact k H3 a3 hS3 (f1.trans f3)
def Jt (T:TX K mg):Sp:=fun vs H Q _=>∃ (p:Addr) (a:Ad) (sas:List Addr) (v:Window Cells) (late:List (List Nat)) (seed:Int) (n:Nat),vs=[.ref p,.int (n:Int)]∧Se T H p a sas v late seed∧W1 v∧v.now+n≤400 ∧
 ∀ H' a',Se T H' p a' sas (Vbwsaf.locked Vbwsaf.cells n v) late seed→W1 (Vbwsaf.locked Vbwsaf.cells n v)→Fr H (mset p a sas) H' (mset p a' sas)→Q .non H'
theorem U0 (T:TX K mg):FnOk P w K mg base CX0 9 T.Zw.f T.Zw.d ["self", "many"] (Jt T):=by
 refine T.Zw.F.ok X9 (fun vs H Q E h=>?_) (fun cdv A outer s H vs Q E hr h=>?_)
 ·obtain ⟨p,a,sas,v,late,seed,n,rfl,_⟩:=h
  rfl
 ·obtain ⟨p,a,sas,v,late,seed,n,rfl,hS,hW,hn,k⟩:=h
  refine ⟨_,(Z5 (Jy PassesOwn.never rfl (J8 rfl T.b_range (Z0 (pv 1) Z3)) (Y4 (i:=2) X9.nd rfl (Or.inl rfl)) (Z4 (ps_if (Zbn (Z4q (Jq (pv 0) T.Z1 T.Ya.M (U1 T) (hr.mono (by decide)) T.Ya.b .nil pass0))) (Z5 ps_retN) Zp)
   (Z5 (Zx (Jq (pv 0) T.Z1 T.Y7.M (Jm T) (hr.mono (by decide)) T.Y7.b .nil pass0)))))),?_⟩
  refine ⟨_,rfl,_,rfl,(by omega),(by omega),?_⟩
  rw[Int.toNat_natCast]
  refine Jb (lo:=0) (n:=n) (fun i σ H'=>∃ (u:Option V) (a':Ad) (v':Window Cells),σ=[some (.ref p),some (.int (n:Int)),u]∧Se T H' p a' sas v' late seed∧W1 v'∧v'.now=v.now+i∧Vbwsaf.locked Vbwsaf.cells (n-i) v'=Vbwsaf.locked Vbwsaf.cells n v∧Fr H (mset p a sas) H' (mset p a' sas))
   ⟨none,a,v,rfl,hS,hW,rfl,rfl,Same.refl _⟩ ?_ ?_
  ·rintro i σ H1 hi ⟨u,a',v',rfl,hS1,hW1,hn1,hl1,f1⟩
   obtain ⟨dx,ho⟩:=hS1.ob
   refine ⟨_,rfl,p,dx,_,rfl,ho,rfl,p,a',sas,v',late,seed,rfl,hS1,Nat.le_trans hW1.w0.sl (by decide),fun H2 s2=>?_⟩
   have en:n-i=(n-(i+1))+1:=by omega
   rw[en] at hl1
   have hl2:(if Vbwsaf.ready v'=true then Vbwsaf.locked Vbwsaf.cells (n-(i+1)) (Vbwsaf.tick Vbwsaf.cells v') else v')=Vbwsaf.locked Vbwsaf.cells n v:=hl1
   have hS2:=hS1.same s2
   have f2:=f1.trans (Fr.of s2)
   refine ⟨_,rfl,?_⟩
   cases hr:Vbwsaf.ready v' with
   | false=>
    refine iteT ?_
    rw[hr,if_neg (by decide)] at hl2
    rw[← hl2] at k
    exact k H2 a' hS2 hW1 f2
   | true=>
    refine iteF ?_
    rw[hr,if_pos rfl] at hl2
    obtain ⟨dx2,ho2⟩:=hS2.ob
    refine ⟨_,rfl,p,dx2,_,rfl,ho2,rfl,p,a',sas,v',late,seed,rfl,hS2,hW1,by omega,fun H3 a3 hS3 f3=>?_⟩
    exact ⟨_,a3,_,rfl,hS3,hW1.tick (by omega),by rw[Zbc hW1.sn];omega,hl2,f2.trans f3⟩
  ·rintro σ H1 ⟨u,a',v',rfl,hS1,hW1,hn1,hl1,f1⟩
   rw[Nat.sub_self] at hl1
   have hl1:v'=Vbwsaf.locked Vbwsaf.cells n v:=hl1
   rw[← hl1] at k
   exact k H1 a' hS1 hW1 f1
def W5 (T:TX K mg):Sp:=fun vs H Q _=>∃ (p:Addr) (a:Ad) (sas:List Addr) (v:Window Cells) (late:List (List Nat)) (seed:Int) (t:Nat),vs=[.ref p,.int (t:Int)]∧Se T H p a sas v late seed∧W1 v∧v.settled<t∧t≤v.now ∧
 ∀ H' a',Se T H' p a' sas (Vbwsaf.again Vbwsaf.cells v t).1 late seed→W0 (Vbwsaf.again Vbwsaf.cells v t).1→SN (Vbwsaf.again Vbwsaf.cells v t).1→(Vbwsaf.again Vbwsaf.cells v t).1.now=v.now∧(Vbwsaf.again Vbwsaf.cells v t).1.settled=v.settled∧(Vbwsaf.again Vbwsaf.cells v t).1.stays=v.stays∧(Vbwsaf.again Vbwsaf.cells v t).1.rules=v.rules∧(Vbwsaf.again Vbwsaf.cells v t).1.all=v.all→Fr H (mset p a sas) H' (mset p a' sas)→Q (.int ((Vbwsaf.again Vbwsaf.cells v t).2:Int)) H'
theorem Wc (T:TX K mg):FnOk P w K mg base CX0 8 T.Yc.f T.Yc.d ["self", "first"] (W5 T):=by
 refine T.Yc.F.ok Yy (fun vs H Q E h=>?_) (fun cdv A outer s H vs Q E hr h=>?_)
 ·obtain ⟨p,a,sas,v,late,seed,t,rfl,_⟩:=h
  rfl
 ·obtain ⟨p,a,sas,v,late,seed,t,rfl,hS,hW,h1,h2,k⟩:=h
  have hu:=hu_of hr
  refine ⟨_,(Z4 (Zy (i:=2) Yy.nd rfl (Or.inl rfl) (Yf (pv 0) T.Z1 T.Zg.M (Yj T) (hr.mono (by decide)) T.Zg.b .nil pass0 (Z0 (pe_op Z6x (pv 1) Z9) Z3)))
   (Z4 (Yu (pv 0) (Zf1 hu (Za (pv 0) rfl) (pv 2) (fun _ _=>rfl)) rfl)
   (Z4 (Jy PassesOwn.never rfl (Z4r rfl T.b_range (Z0 (pe_op Yx (pv 2) Z9) (Z0 (pe_op Yx (Za (pv 0) rfl) Z9) Z3))) (Y4 (i:=3) Yy.nd rfl (Or.inl rfl)) (Z5 (Zx (Yf (pv 0) T.Z1 T.Yr.M (Uw T) (hr.mono (by decide)) T.Yr.b .nil pass0 (Z0 (pv 3) Z3)))))
   (Z5 (Zc (pe_op Z6x (Za (pv 0) rfl) (pv 2))))))),?_⟩
  obtain ⟨dx,ho⟩:=hS.ob
  have hnw:=hW.nw
  obtain ⟨k0,w0,hsf,_,hk1,_⟩:=hW.sn.snap (t:=t-1) (by omega) (by omega)
  obtain ⟨hm,_⟩:=Z7s hsf
  have ei:((t:Int)-1)=((t-1:Nat):Int):=by omega
  refine ⟨_,rfl,p,dx,_,rfl,ho,rfl,_,rfl,_,_,rfl,rfl,p,a,sas,v,late,seed,t-1,k0,w0,(by show [V.ref p,V.int ((t:Int)-1)]=_;rw[ei]),hS,hW.sn.inc,Nat.le_trans hW.len (by decide),hsf,fun H1 s1=>?_⟩
  have hS1:=hS.same s1
  have ho1:=s1 _ _ ho
  obtain ⟨cs,hd,hp⟩:=hS1.sn
  obtain ⟨b,hb1,hb2⟩:=Zhi hp hW.sn.inc hm
  refine ⟨_,rfl,p,_,dx,_,_,rfl,ho1,T.Z1,T.Zo,rfl,_,rfl,a.ds,.ref b,rfl,(by rw[← hb1];exact DGet.k (k:=Sum.inl (k0:Int)) hd),_,rfl,p,_,dx,_,rfl,ho1,T.Z1,T.Yo,(by show 14<1000;decide),?_⟩
  have ef:putF "cells" (V.ref b) (seF v a)=seF { v with head:=w0 } { a with c:=b }:=rfl
  rw[ef]
  have hS2:=hS1.fld (dx:=dx) (c':=b) (v':={ v with head:=w0 }) rfl rfl rfl rfl hb2
  have f2:Fr H (mset p a sas) (upd H1 p (.ins T.cSession dx (seF { v with head:=w0 } { a with c:=b }))) (mset p a sas):=(Fr.of s1).trans (Fr.upd (by simp))
  rw[← Z7e hW.sn.inc k0 w0] at hS2
  have ho2:upd H1 p (.ins T.cSession dx (seF { v with head:=w0 } { a with c:=b })) p=some (.ins T.cSession dx (seF { v with head:=w0 } { a with c:=b })):=Z2
  refine ⟨_,rfl,_,_,rfl,rfl,_,rfl,p,_,dx,_,_,rfl,ho2,T.Z1,T.Zh,rfl,_,_,rfl,rfl,_,_,rfl,(show -(2 ^ 62)≤(k0:Int)+1∧(k0:Int)+1<2 ^ 62∧-(2 ^ 62)≤(v.now:Int)+1∧(v.now:Int)+1<2 ^ 62 by omega),?_⟩
  have en:((v.now:Int)+1-((k0:Int)+1)).toNat=v.now-k0:=by omega
  rw[en]
  refine Jb (lo:=(k0:Int)+1) (n:=v.now-k0) (fun i σ H'=>∃ (u:Option V) (a':Ad),σ=[some (.ref p),some (.int (t:Int)),some (.int (k0:Int)),u]∧Se T H' p a' sas (viaR v k0 w0 i) late seed∧Fr H (mset p a sas) H' (mset p a' sas))
   ⟨none,{ a with c:=b },rfl,hS2,f2⟩ ?_ ?_
  ·rintro i σ H3 hi ⟨u,a',rfl,hS3,f3⟩
   obtain ⟨dx3,ho3⟩:=hS3.ob
   have sn3:=hW.sn.via hm i (by omega)
   have l3:=Z7g hW.sn hm i (by omega)
   have l3:=congrArg List.length l3
   rw[List.length_map,List.length_map] at l3
   have lW:=hW.len
   refine ⟨_,rfl,p,dx3,_,rfl,ho3,rfl,_,rfl,p,a',sas,viaR v k0 w0 i,late,seed,k0+i+1,(by rw[show ((k0:Int)+1+(i:Int))=((k0+i+1:Nat):Int) by omega];rfl),hS3,hW.w0.via hW.sn hm i (by omega),by omega,by omega,by omega,fun H4 a4 hS4 f4=>?_⟩
   rw[Z7f hW.sn hm (by omega)] at hS4
   exact ⟨_,a4,rfl,hS4,f3.trans f4⟩
  ·rintro σ H3 ⟨u,a',rfl,hS3,f3⟩
   obtain ⟨dx3,ho3⟩:=hS3.ob
   have ea:=via_end hW.sn hsf (by omega)
   rw[ea] at k
   refine ⟨_,rfl,p,_,dx3,_,_,rfl,ho3,T.Z1,T.Zh,rfl,_,rfl,_,_,rfl,rfl,?_⟩
   have es:((viaR v k0 w0 (v.now-k0)).now:Int)-(k0:Int)=((v.now-k0:Nat):Int):=by show (v.now:Int)-(k0:Int)=_;omega
   show Q (V.int (((viaR v k0 w0 (v.now-k0)).now:Int)-(k0:Int))) H3
   rw[es]
   exact k H3 a' hS3 (hW.w0.via hW.sn hm _ (by omega)) (hW.sn.via hm _ (by omega)) ⟨rfl,rfl,rfl,rfl,rfl⟩ f3
end
end Pr
end
section
namespace Pr
open PySem PySem.Spec PyProof.Rows L2
open Vbwsaf (Input Deed Stay Window Cells)
section
variable {C CS:Addr} {H:Hp} {p:Addr} {a:Ad} {sas:List Addr} {v:Window Cells} {late:List (List Nat)} {seed:Int}
theorem SeAt.joined (h:SeAt C CS H p a sas v late seed) {H3:Hp} {x:Addr} {s:Stay} (hx:H x=none) (s3:Same H H3) (hs:StAt CS H3 x s) :
  SeAt C CS (upd H3 a.ls (.lst ((sas++[x]).map V.ref))) p a (sas++[x]) { v with stays:=v.stays++[s] } late seed∧Fr H (mset p a sas) (upd H3 a.ls (.lst ((sas++[x]).map V.ref))) (mset p a (sas++[x])):=by
 have h3:=h.same s3
 obtain ⟨dx,h1⟩:=h3.ob
 obtain ⟨ks,h2,hk⟩:=h3.kp
 obtain ⟨cs,h4,h5⟩:=h3.sn
 obtain ⟨cs0,h40,h50⟩:=h.sn
 obtain ⟨dy,hs'⟩:=id hs
 have fr:Fr H (mset p a sas) (upd H3 a.ls (.lst ((sas++[x]).map V.ref))) (mset p a (sas++[x])):=by
  intro b o e
  obtain ⟨e1,e2⟩:=Uc e
  have bx:b≠x:=Z6 e1 hx
  simp only[List.mem_cons,not_or] at e2
  refine Y3 (by rw[Z8 e2.2.1];exact s3 _ _ e1) ?_
  simp only[List.mem_cons,not_or,List.mem_append,List.mem_singleton,List.not_mem_nil,or_false]
  exact ⟨e2.1,e2.2.1,e2.2.2.1,e2.2.2.2.1,e2.2.2.2.2.1,e2.2.2.2.2.2,bx⟩
 have nl:∀ {b:Addr} {o:HO},H3 b=some o→(∀ ys,o≠.lst ys)→b≠a.ls:=fun e q=>ne_of e h3.st.lst (q _)
 have hxs:x ∉ sas:=fun hm=>by
  obtain ⟨o,e⟩:=h.there x (by simp[hm])
  rw[hx] at e
  cases e
 have stn:∀ {b:Addr} {s:Stay},StAt CS H3 b s→StAt CS (upd H3 a.ls (.lst ((sas++[x]).map V.ref))) b s:=fun ⟨dz,e⟩=>⟨dz,Zm e (nl e (fun _ z=>nomatch z))⟩
 refine ⟨⟨⟨dx,Zm h1 (nl h1 (fun _ z=>nomatch z))⟩,⟨Z2,?_,?_⟩,⟨ks,Zm h2 (nl h2 (fun _ z=>nomatch z)),hk⟩,Zm h3.lt (nl h3.lt (fun _ z=>nomatch z)),⟨cs0,Zm (s3 _ _ h40) (nl (s3 _ _ h40) (fun _ z=>nomatch z)),Paired.mapP h50 fun _ _ r=>fr _ _ r⟩,h.ct.same fr,fr _ _ h.b0,fr _ _ h.cl⟩,fr⟩
 ·rw[List.nodup_append]
  refine ⟨h.st.nd,by simp,?_⟩
  intro b hb c hc e
  have:c=x:=by simpa using hc
  rw[e,this] at hb
  exact hxs hb
 ·exact Xq (Paired.mapP h3.st.at_ fun _ _ r=>stn r) (stn hs)
theorem Zd6 {as:List Addr} {ss:List Stay} (hp:Paired (StAt CS H) as ss):as.Nodup→∀ {i:Nat} {b dy:Addr} {s:Stay},as[i]?=some b→Paired (StAt CS (upd H b (.ins CS dy (stF s)))) as (ss.set i s):=by
 induction hp with
 | nil=>intro _ i b dy s h;simp at h
 | @cons a0 s0 as ss r t ih=>
  intro nd i b dy s hb
  obtain ⟨n1,n2⟩:=List.nodup_cons.mp nd
  cases i with
  | zero=>
   have e:a0=b:=by simpa using hb
   subst e
   refine .cons ⟨dy,Z2⟩ ?_
   have go:∀ {as:List Addr} {ss:List Stay},Paired (StAt CS H) as ss→a0 ∉ as→Paired (StAt CS (upd H a0 (.ins CS dy (stF s)))) as ss:=by
    intro as ss hp
    induction hp with
    | nil=>intro _;exact .nil
    | cons r t ih=>
     intro hn
     obtain ⟨dz,r⟩:=r
     exact .cons ⟨dz,Zm r (fun e=>hn (by rw[e];exact List.mem_cons_self ..))⟩ (ih fun h=>hn (List.mem_cons_of_mem _ h))
   exact go t n1
  | succ i=>
   have hb':as[i]?=some b:=by simpa using hb
   obtain ⟨dz,r⟩:=r
   exact .cons ⟨dz,Zm r (fun e=>n1 (by rw[e];exact List.mem_of_getElem? hb'))⟩ (ih n2 hb')
theorem SeAt.stay (h:SeAt C CS H p a sas v late seed) {i:Nat} {b dy:Addr} {s:Stay} (hb:sas[i]?=some b) :
  SeAt C CS (upd H b (.ins CS dy (stF s))) p a sas { v with stays:=v.stays.set i s } late seed∧Fr H (mset p a sas) (upd H b (.ins CS dy (stF s))) (mset p a sas):=by
 have hbm:=List.mem_of_getElem? hb
 obtain ⟨s0,_,dz,h6⟩:=Z35 h.st hbm
 obtain ⟨dx,h1⟩:=h.ob
 obtain ⟨ks,h2,hk⟩:=h.kp
 obtain ⟨cs,h4,h5⟩:=h.sn
 have er:res (upd H b (.ins CS dy (stF s))) (mset p a sas)=res H (mset p a sas):=Z04 (by simp[hbm])
 refine ⟨⟨⟨dx,Zm h1 (h.p_sas b hbm).symm⟩,⟨Zm h.st.lst (ne_of h.st.lst h6 (fun z=>nomatch z)),h.st.nd,Zd6 h.st.at_ h.st.nd hb⟩,⟨ks,Zm h2 (ne_of h2 h6 (fun z=>nomatch z)),hk⟩,Zm h.lt (ne_of h.lt h6 (fun z=>nomatch z)),⟨cs,Zm h4 (ne_of h4 h6 (fun z=>nomatch z)),?_⟩,?_,?_,?_⟩,Fr.upd (by simp[hbm])⟩
 ·rw[er];exact h5
 ·rw[er];exact h.ct
 ·rw[er];exact h.b0
 ·rw[er];exact h.cl
end
theorem Zh1 {v:Window Cells} {n i:Nat} {s:Stay} (ho:v.stays.Pairwise fun s s'=>¬ (s.player=s'.player∧s.last=none∧s'.last=none)) (hi:v.stays[i]?=some s) (h1:s.player=n) (h2:s.last=none) :
  Vbwsaf.leave v n={ v with stays:=v.stays.set i { s with last:=some v.now } }:=by
 have key:∀ (k:Nat) (l:List Stay),(l.Pairwise fun s s'=>¬ (s.player=s'.player∧s.last=none∧s'.last=none))→l[k]?=some s→l.map (fun s=>if s.player=n∧s.last.isNone=true then { s with last:=some v.now } else s)=l.set k { s with last:=some v.now }:=by
  intro k l
  induction l generalizing k with
  | nil=>intro _ h;simp at h
  | cons c l ih=>
   intro hp hk
   obtain ⟨p1,p2⟩:=List.pairwise_cons.mp hp
   cases k with
   | zero=>
    have e:c=s:=by simpa using hk
    subst e
    rw[List.map_cons,if_pos ⟨h1,by rw[h2];rfl⟩,List.set_cons_zero]
    congr 1
    conv=>rhs;rw[← List.map_id l]
    refine List.map_congr_left fun d hd=>if_neg ?_
    rintro ⟨q1,q2⟩
    exact p1 d hd ⟨by rw[h1,q1],h2,Option.isNone_iff_eq_none.mp q2⟩
   | succ k=>
    have hk':l[k]?=some s:=by simpa using hk
    rw[List.map_cons,List.set_cons_succ,ih k p2 hk',if_neg]
    rintro ⟨q1,q2⟩
    exact p1 s (List.mem_of_getElem? hk') ⟨by rw[h1,q1],Option.isNone_iff_eq_none.mp q2,h2⟩
 unfold Vbwsaf.leave
 rw[key i v.stays ho hi]
section
variable {P:Program} {w:World} {K:PySem.W.Frag} {mg:Str→Option Value} {base:Heap}
def Wv (T:TX K mg):Sp:=fun vs H Q _=>∃ (p:Addr) (a:Ad) (sas:List Addr) (v:Window Cells) (late:List (List Nat)) (seed:Int) (n:Nat),vs=[.ref p,.int (n:Int)]∧Se T H p a sas v late seed∧v.stays.length≤999 ∧
 ∀ H' sas',Se T H' p a sas' (Vbwsaf.join v n) late seed→Fr H (mset p a sas) H' (mset p a sas')→Q (.int (((v.stays.filter fun s=>s.player==n).length+1:Nat):Int)) H'
theorem Z08 (T:TX K mg):FnOk P w K mg base CX0 3 T.Ym.f T.Ym.d ["self", "player"] (Wv T):=by
 refine T.Ym.F.ok J7 (fun vs H Q E h=>?_) (fun cdv A outer s H vs Q E hr h=>?_)
 ·obtain ⟨p,a,sas,v,late,seed,n,rfl,_⟩:=h
  rfl
 ·obtain ⟨p,a,sas,v,late,seed,n,rfl,hS,hn,k⟩:=h
  refine ⟨_,(Z4 (Zy (i:=2) J7.nd rfl (Or.inl rfl) (Zez T.cStay_k (Z9i T) (hr.mono (by decide)) rfl T.cStay_m T.Stay_init.b .nil pass0 (Z0 (pv 1) (Z0 (Zf (Z62 T) (hr.mono (by decide)) rfl T.next_number.m T.next_number.F.kp T.next_number.b .nil pass0 (Z0 (Za (pv 0) rfl) (Z0 (pv 1) Z3))) (Z0 (Za (pv 0) rfl) Z3)))))
   (Z4 (Zx (pe_bm PySem.F.plainAttrs_list PySem.F.slot_list_append PySem.F.type_list_append Z53 (Za (pv 0) rfl) (Z0 (pv 2) Z3)))
   (Z5 (Zc (Za (pv 2) rfl))))),?_⟩
  obtain ⟨dx,ho⟩:=hS.ob
  refine ⟨_,rfl,_,rfl,p,_,dx,_,_,rfl,ho,T.Z1,T.Zt,rfl,_,rfl,a.ls,sas,v.stays,n,rfl,hS.st,by omega,fun H1 s1=>?_⟩
  have ho1:=s1 _ _ ho
  refine ⟨_,rfl,p,_,dx,_,_,rfl,ho1,T.Z1,T.Zh,rfl,fun x dy hx hy hxy=>?_⟩
  refine ⟨x,dy,n,_,v.now,rfl,Z2,fun H3 hst ho3=>⟨rfl,?_⟩⟩
  have s3:Same H1 H3:=fun b o e=>by
   rw[ho3 b (Z6 e hx),Z8 (Z6 e hx),Z8 (Z6 e hy)]
   exact e
  have hls:=s3 _ _ (s1 _ _ hS.st.lst)
  have ho3':=s3 _ _ ho1
  refine ⟨_,rfl,p,_,dx,_,_,rfl,ho3',T.Z1,T.Zt,rfl,?_⟩
  have hlen:sas.length=v.stays.length:=Paired.length hS.st.at_
  refine ⟨.inl ⟨rfl,_,SqL.of hls⟩,_,rfl,a.ls,_,_,rfl,rfl,hls,by rw[List.length_map,sizeLine_eq];omega,?_⟩
  obtain ⟨r1,r2⟩:=hS.joined (s1.free hx) (s1.trans s3) hst
  rw[List.map_append] at r1 r2
  obtain ⟨dz,hst'⟩:=id hst
  refine ⟨_,rfl,x,_,dz,_,_,rfl,Zm hst' (ne_of hst' hls (fun z=>nomatch z)),T.X1,T.Uf,rfl,?_⟩
  exact k _ _ r1 r2
def Z1f (T:TX K mg):Sp:=fun vs H Q _=>∃ (p:Addr) (a:Ad) (sas:List Addr) (v:Window Cells) (late:List (List Nat)) (seed:Int) (n:Nat),vs=[.ref p,.int (n:Int)]∧Se T H p a sas v late seed∧W1 v∧(Vbwsaf.stayOf v n).isSome=true ∧
 ∀ H',Se T H' p a sas (Vbwsaf.leave v n) late seed→Fr H (mset p a sas) H' (mset p a sas)→Q .non H'
theorem Z1m (T:TX K mg):FnOk P w K mg base CX0 2 T.X5.f T.X5.d ["self", "player"] (Z1f T):=by
 refine T.X5.F.ok Jw (fun vs H Q E h=>?_) (fun cdv A outer s H vs Q E hr h=>?_)
 ·obtain ⟨p,a,sas,v,late,seed,n,rfl,_⟩:=h
  rfl
 ·obtain ⟨p,a,sas,v,late,seed,n,rfl,hS,hW,hn,k⟩:=h
  refine ⟨_,(Z4 (Zy (i:=2) Jw.nd rfl (Or.inl rfl) (Zf (Xr T) (hr.mono (by decide)) rfl T.present_stay.m T.present_stay.F.kp T.present_stay.b .nil pass0 (Z0 (Za (pv 0) rfl) (Z0 (pv 1) Z3))))
   (Z5 (Yu (pv 2) (Za (pv 0) rfl) rfl))),?_⟩
  obtain ⟨dx,ho⟩:=hS.ob
  refine ⟨_,rfl,p,_,dx,_,_,rfl,ho,T.Z1,T.Zt,rfl,_,rfl,a.ls,sas,v.stays,n,rfl,hS.st,fun i b s hb hs _ _ hp hl=>?_,fun hf=>?_⟩
  ·obtain ⟨s',hs',dy,hst⟩:=Y5 hS.st.at_ hb
   rw[hs] at hs'
   cases hs'
   refine ⟨_,rfl,p,_,dx,_,_,rfl,ho,T.Z1,T.Zh,rfl,_,rfl,b,_,dy,_,rfl,hst,T.X1,T.J5,(by show 4<1000;decide),?_⟩
   obtain ⟨r1,r2⟩:=hS.stay (dy:=dy) (s:={ s with last:=some v.now }) hb
   rw[Zh1 hW.op hs hp hl] at k
   exact k _ r1 r2
  ·have hf:Vbwsaf.stayOf v n=none:=hf
   rw[hf] at hn
   cases hn
end
end Pr
end
section
namespace Pr
open PySem PySem.Spec PyProof.Rows L2
open Vbwsaf (Input Deed Stay Window Cells)
noncomputable def deD (d:Deed):PyData:=.tuple [.tuple ([.int (d.input.player:Int),.int (d.input.stay:Int),.int (d.input.number:Int),.int (d.input.tick:Int)]++[.tuple (d.input.data.map .int)]),.int (if d.guess=true then 1 else 0)]
theorem Zc3:∀ l:List Int,PyData.canLayAll0 (l.map .int)=true∧PyData.depthAll (l.map .int)=0
 | []=>⟨rfl,rfl⟩
 | x::l=>by
  obtain ⟨h1,h2⟩:=Zc3 l
  refine ⟨?_,?_⟩
  ·show (PyData.canLay0 (.int x)&&PyData.canLayAll0 (l.map .int))=true
   rw[h1];rfl
  ·show max (PyData.depth (.int x)) (PyData.depthAll (l.map .int))=0
   rw[h2];rfl
theorem deD_lay (d:Deed):PyData.canLay0 (deD d)=true∧PyData.depth (deD d)≤3:=by
 obtain ⟨h1,h2⟩:=Zc3 d.input.data
 refine ⟨?_,?_⟩
 ·simp[deD,PyData.canLay0,PyData.canLayAll0,h1]
 ·simp[deD,PyData.depth,PyData.depthAll,h2]
theorem Zfv:∀ ds:List Deed,PyData.canLayAll0 (ds.map deD)=true∧PyData.depthAll (ds.map deD)≤3
 | []=>⟨rfl,Nat.zero_le _⟩
 | d::ds=>by
  obtain ⟨h1,h2⟩:=Zfv ds
  obtain ⟨h3,h4⟩:=deD_lay d
  refine ⟨?_,?_⟩
  ·show (PyData.canLay0 (deD d)&&PyData.canLayAll0 (ds.map deD))=true
   rw[h1,h3];rfl
  ·show max (PyData.depth (deD d)) (PyData.depthAll (ds.map deD))≤3
   omega
theorem Z79 (ds:List Deed):SeqAt.shaped (.list (ds.map deD))=true:=by
 obtain ⟨h1,h2⟩:=Zfv ds
 unfold SeqAt.shaped
 rw[Bool.and_eq_true]
 refine ⟨h1,decide_eq_true ?_⟩
 show PyData.depthAll (ds.map deD)+1≤64
 omega
theorem Zc5:∀ l m:List Int,PyData.eqvAll (l.map .int) (m.map .int)=(l==m)
 | [],[]=>rfl
 | [],_::_=>rfl
 | _::_,[]=>rfl
 | x::l,y::m=>by
  show (PyData.eqv (.int x) (.int y)&&PyData.eqvAll (l.map .int) (m.map .int))=_
  rw[Zc5 l m]
  rfl
theorem deD_eqv (d e:Deed):PyData.eqv (deD d) (deD e)=(Vbwsaf.deedKey d==Vbwsaf.deedKey e):=by
 have h:PyData.eqv (deD d) (deD e)=((((d.input.player:Int)==(e.input.player:Int))&&(((d.input.stay:Int)==(e.input.stay:Int))&&(((d.input.number:Int)==(e.input.number:Int))&&(((d.input.tick:Int)==(e.input.tick:Int))&&(PyData.eqvAll (d.input.data.map .int) (e.input.data.map .int)&&true)))))&&(((if d.guess=true then (1:Int) else 0)==(if e.guess=true then 1 else 0))&&true)):=by
  simp[deD,PyData.eqv,PyData.eqvAll]
 rw[h,Zc5]
 show _=((if d.guess=true then (1:Int) else 0)::((d.input.player:Int)::(d.input.stay:Int)::(d.input.number:Int)::(d.input.tick:Int)::d.input.data)==(if e.guess=true then (1:Int) else 0)::((e.input.player:Int)::(e.input.stay:Int)::(e.input.number:Int)::(e.input.tick:Int)::e.input.data))
 rw[Bool.eq_iff_iff]
 simp only[Bool.and_eq_true,beq_iff_eq,List.cons.injEq,and_true]
 constructor
 ·rintro ⟨⟨a,b,c,d,e⟩,f⟩
  exact ⟨f,a,b,c,d,e⟩
 ·rintro ⟨f,a,b,c,d,e⟩
  exact ⟨⟨a,b,c,d,e⟩,f⟩
theorem Zfw:∀ ds es:List Deed,PyData.eqvAll (ds.map deD) (es.map deD)=Vbwsaf.sameDeeds ds es
 | [],[]=>rfl
 | [],_::_=>rfl
 | _::_,[]=>rfl
 | d::ds,e::es=>by
  show (PyData.eqv (deD d) (deD e)&&PyData.eqvAll (ds.map deD) (es.map deD))=_
  rw[Zfw ds es,deD_eqv]
  rfl
theorem Zfm {K:PySem.W.Frag} {H:Hp}:∀ l:List Int,DpAll K H (l.map V.int) (l.map PyData.int)
 | []=>.nil
 | x::l=>.cons (.int x) (Zfm l)
theorem de_dp {K:PySem.W.Frag} {H:Hp} {a:Addr} {d:Deed} (h:DeAt H a d):Dp K H (.ref a) (deD d):=by
 obtain ⟨b,h1,c,h2,h3⟩:=h
 refine .tup (SqT.of h1) (.cons (.tup (SqT.of h2) ?_) (.cons (.int _) .nil))
 exact .cons (.int _) (.cons (.int _) (.cons (.int _) (.cons (.int _) (.cons (.tup (SqT.of h3) (Zfm _)) .nil))))
theorem ds_dp {K:PySem.W.Frag} {H:Hp} {q:Addr} {ds:List Deed} (h:Lof DeAt H q ds):Dp K H (.ref q) (.list (ds.map deD)):=by
 obtain ⟨as,h1,h2⟩:=h
 refine .lst (SqL.of h1) ?_
 clear h1
 induction h2 with
 | nil=>exact .nil
 | cons r t ih=>exact .cons (de_dp r) ih
section
variable {C CS:Addr} {H:Hp} {p:Addr} {a:Ad} {sas:List Addr} {v:Window Cells} {late:List (List Nat)} {seed:Int}
theorem SeAt.notup (h:SeAt C CS H p a sas v late seed) {b:Addr} {xs:List V} (e:H b=some (.tup xs)):b ∉ mset p a sas:=by
 obtain ⟨dx,h1⟩:=h.ob
 obtain ⟨ks,h2,_⟩:=h.kp
 obtain ⟨cs,h4,h5⟩:=h.sn
 simp only[List.mem_cons,not_or]
 refine ⟨ne_of e h1 (fun z=>nomatch z),ne_of e h.st.lst (fun z=>nomatch z),ne_of e h2 (fun z=>nomatch z),ne_of e h.lt (fun z=>nomatch z),ne_of e h4 (fun z=>nomatch z),fun hm=>?_⟩
 obtain ⟨s,_,dy,h6⟩:=Z35 h.st hm
 exact ne_of e h6 (fun z=>nomatch z) rfl
theorem SeAt.count (h:SeAt C CS H p a sas v late seed) {H2:Hp} {dc dx:Addr} {ks' all':List Input} (s2:Same (upd H a.dk (.dN (ks'.map fun x=>(inK x,.bl true)))) H2) (hp:all'.Perm ks') (hdc:H dc=none)
  (hct:CtAt H2 dc (Li.cnt v.rules.most (Vbwsaf.firsts all'))) (hfr:∀ kvs,H2 dc=some (.dT kvs)→∀ k v,valV kvs k=some v→∃ l,v=.ref l∧H l=none) :
  SeAt C CS (upd H2 p (.ins C dx (seF { v with all:=all' } { a with dc:=dc }))) p { a with dc:=dc } sas { v with all:=all' } late seed∧Fr H (mset p a sas) (upd H2 p (.ins C dx (seF { v with all:=all' } { a with dc:=dc }))) (mset p { a with dc:=dc } sas):=by
 obtain ⟨dx0,h1⟩:=h.ob
 obtain ⟨ks,h2,hk⟩:=h.kp
 obtain ⟨cs,h4,h5⟩:=h.sn
 have f1:Fr H (mset p a sas) (upd H a.dk (.dN (ks'.map fun x=>(inK x,.bl true)))) (mset p a sas):=Fr.upd (by simp)
 have f2:=f1.trans (Fr.of s2)
 have er:res (upd H2 p (.ins C dx (seF { v with all:=all' } { a with dc:=dc }))) (mset p a sas)=res H2 (mset p a sas):=Z04 (by simp)
 have fr:Fr H (mset p a sas) (upd H2 p (.ins C dx (seF { v with all:=all' } { a with dc:=dc }))) (mset p { a with dc:=dc } sas):=f2.trans (Fr.upd (by simp))
 have nd:∀ {b:Addr} {o:HO},H b=some o→(∀ ys,o≠.dN ys)→H2 b=some o:=fun e q=>s2 _ _ (Zm e (ne_of e h2 (q _)))
 have st2:StaysAt CS H2 a.ls sas v.stays:=by
  refine ⟨nd h.st.lst (fun _ z=>nomatch z),h.st.nd,Paired.mapP h.st.at_ fun _ _ r=>?_⟩
  obtain ⟨dz,r⟩:=r
  exact ⟨dz,nd r (fun _ z=>nomatch z)⟩
 have hS2:SeAt C CS H2 p { a with dc:=a.dc } sas v late seed→True:=fun _=>trivial
 have tupOut:∀ {b:Addr} {xs:List V},H2 b=some (.tup xs)→b ∉ mset p a sas:=by
  intro b xs e
  simp only[List.mem_cons,not_or]
  refine ⟨ne_of e (nd h1 (fun _ z=>nomatch z)) (fun z=>nomatch z),ne_of e st2.lst (fun z=>nomatch z),ne_of e (s2 _ _ Z2) (fun z=>nomatch z),ne_of e (nd h.lt (fun _ z=>nomatch z)) (fun z=>nomatch z),ne_of e (nd h4 (fun _ z=>nomatch z)) (fun z=>nomatch z),fun hm=>?_⟩
  obtain ⟨s,_,dy,h6⟩:=Z35 st2 hm
  exact ne_of e h6 (fun z=>nomatch z) rfl
 have ct2:CtAt (res H2 (mset p a sas)) dc (Li.cnt v.rules.most (Vbwsaf.firsts all')):=by
  obtain ⟨kvs,c1,c2⟩:=hct.ex
  refine ⟨⟨kvs,Y3 c1 (h.new hdc),fun t q=>⟨(c2 t q).1,fun u hu=>?_⟩⟩,hct.bd⟩
  obtain ⟨l,e1,as,l1,l2⟩:=(c2 t q).2 u hu
  obtain ⟨l',e2,hl'⟩:=hfr kvs c1 _ u hu
  rw[e1] at e2
  injection e2 with e2
  subst e2
  refine ⟨l,e1,as,Y3 l1 (h.new hl'),Paired.mapP l2 fun _ _ r=>?_⟩
  obtain ⟨d,r1,r2⟩:=r
  exact ⟨d,Y3 r1 (tupOut r1),Y3 r2 (tupOut r2)⟩
 refine ⟨⟨⟨dx,Z2⟩,Ws st2 h.p_ls h.p_sas,⟨ks',Zm (s2 _ _ Z2) h.p_dk,hp⟩,Zm (nd h.lt (fun _ z=>nomatch z)) h.p_dl,⟨cs,Zm (nd h4 (fun _ z=>nomatch z)) h.p_ds,Paired.mapP h5 fun _ _ r=>fr _ _ r⟩,?_,fr _ _ h.b0,fr _ _ h.cl⟩,fr⟩
 show CtAt (res _ (mset p a sas)) _ _
 rw[er]
 exact ct2
end
end Pr
end
section
namespace Pr
open PySem PySem.Spec PyProof.Rows L2
open Vbwsaf (Input Deed Stay Window Cells)
def SameLT (H H':Hp):Prop:=(∀ b xs,H b=some (.lst xs)→H' b=some (.lst xs))∧∀ b xs,H b=some (.tup xs)→H' b=some (.tup xs)
theorem SameLT.lof {H H':Hp} (s:SameLT H H') {q:Addr} {dss:List (List Deed)} (h:Lof (Lof DeAt) H q dss):Lof (Lof DeAt) H' q dss:=by
 obtain ⟨as,h1,h2⟩:=h
 refine ⟨as,s.1 _ _ h1,Paired.mapP h2 fun _ _ r=>?_⟩
 obtain ⟨bs,r1,r2⟩:=r
 refine ⟨bs,s.1 _ _ r1,Paired.mapP r2 fun _ _ u=>?_⟩
 obtain ⟨c,u1,d,u2,u3⟩:=u
 exact ⟨c,s.2 _ _ u1,d,s.2 _ _ u2,s.2 _ _ u3⟩
theorem SameLT.of {H H':Hp} (s:Same H H'):SameLT H H':=⟨fun _ _ e=>s _ _ e,fun _ _ e=>s _ _ e⟩
theorem SameLT.trans {H H1 H2:Hp} (s:SameLT H H1) (t:SameLT H1 H2):SameLT H H2:=⟨fun _ _ e=>t.1 _ _ (s.1 _ _ e),fun _ _ e=>t.2 _ _ (s.2 _ _ e)⟩
theorem SameLT.upd {H:Hp} {m:Addr} {o u:HO} (h:H m=some u) (h1:∀ xs,u≠.lst xs) (h2:∀ xs,u≠.tup xs):SameLT H (upd H m o):=
 ⟨fun b xs e=>Zm e (ne_of e h (h1 xs).symm),fun b xs e=>Zm e (ne_of e h (h2 xs).symm)⟩
structure InB (x:Input):Prop where
 pl:x.player≤3
 t1:1≤x.tick
 dl:x.data.length≤4
abbrev plus (v:Window Cells) (x:Input):Window Cells:={ v with all:=Vbwsaf.put x v.all }
theorem Zbo {v:Window Cells} {x:Input} (hx:v.all.any (Vbwsaf.alike x)=false):(Vbwsaf.put x v.all).Perm (v.all++[x]):=by
 refine Li.Zbl fun hm=>?_
 rw[List.any_eq_false] at hx
 exact hx x hm (Li.U6.mpr rfl)
theorem W1.plus {v:Window Cells} {x:Input} (h:W1 v) (hx:v.all.any (Vbwsaf.alike x)=false) (hb:InB x) (hl:v.all.length<100):W1 (Pr.plus v x):=by
 refine ⟨{ h.w0 with ord:=Li.Zes h.w0.ord,al:=?_,inb:=?_ },?_,h.nw,h.ws,h.op⟩
 ·show (Vbwsaf.put x v.all).length≤100
  rw[(Zbo hx).length_eq,List.length_append,List.length_singleton]
  omega
 ·intro z hz
  rcases Li.Zal hz with e | e
  ·rw[e];exact ⟨hb.pl,hb.t1,hb.dl⟩
  ·exact h.w0.inb z e
 ·obtain ⟨f,f1,f2,f3,e⟩:=h.sn.f
  exact ⟨h.sn.ev,h.sn.sn,f,f1,f2,f3,e⟩
section
variable {P:Program} {w:World} {K:PySem.W.Frag} {mg:Str→Option Value} {base:Heap}
def Z48 (T:TX K mg):Sp:=fun vs H Q _=>∃ (p:Addr) (a:Ad) (sas:List Addr) (v:Window Cells) (late:List (List Nat)) (seed:Int) (q:Addr) (x:Input),vs=[.ref p,.ref q]∧Se T H p a sas v late seed∧W1 v∧InAt H q x∧v.all.any (Vbwsaf.alike x)=false∧v.all.length<100∧InB x ∧
 ∀ (v':Window Cells) (n:Nat) H' a',Vbwsaf.renewed Vbwsaf.cells v (plus v x)=(v',n)→Se T H' p a' sas v' late seed→W1 v'→v'.rules=v.rules→v'.all=(plus v x).all→Fr H (mset p a sas) H' (mset p a' sas)→Q (.int (n:Int)) H'
theorem Z50 (T:TX K mg):FnOk P w K mg base CX0 9 T.Je.f T.Je.d ["self", "one"] (Z48 T):=by
 refine T.Je.F.ok Xp (fun vs H Q E h=>?_) (fun cdv A outer s H vs Q E hr h=>?_)
 ·obtain ⟨p,a,sas,v,late,seed,q,x,rfl,_⟩:=h
  rfl
 ·obtain ⟨p,a,sas,v,late,seed,q,x,rfl,hS,hW,hq,hx,hl,hb,k⟩:=h
  have hu1:=Z9m hr
  refine ⟨_,(Z4 (Zy (i:=2) Xp.nd rfl (Or.inl rfl) (Jq (pv 0) T.Z1 T.Zk.M (X7 T) (hr.mono (by decide)) T.Zk.b .nil pass0))
   (Z4 (ps_nput hu1 (Za (pv 0) rfl) (pv 1) pe_bl rfl)
   (Z4 (Yu (pv 0) (Zf (Zau T) (hr.mono (by decide)) rfl T.counting.m T.counting.F.kp T.counting.b .nil pass0 (Z0 (Za (pv 0) rfl) (Z0 (Za (pv 0) rfl) Z3))) rfl)
   (Z4 (Zy (i:=3) Xp.nd rfl (Or.inl rfl) (Jq (pv 0) T.Z1 T.Zk.M (X7 T) (hr.mono (by decide)) T.Zk.b .nil pass0))
   (Z4 (Jy PassesOwn.never rfl (J8 rfl T.b_range (Z0 (Zu Y2 rfl T.b_len Jo (Z0 (pv 3) Z3)) Z3)) (Y4 (i:=4) Xp.nd rfl (Or.inl rfl)) (Z5 (ps_if (Zr (op_neD hr.units) (pe_ix Zj (pv 2) (pv 4) (fun _ _=>rfl)) (pe_ix Zj (pv 3) (pv 4) (fun _ _=>rfl)) (Y8 _)) (Z5 (Zc (Yf (pv 0) T.Z1 T.Yc.M (Wc T) (hr.mono (by decide)) T.Yc.b .nil pass0 (Z0 (pe_op Yx (pe_op Yx (Za (pv 0) rfl) Z9) (pv 4)) Z3)))) Zp)))
   (Z5 (Zc Z9))))))),?_⟩
  obtain ⟨dx,ho⟩:=hS.ob
  have hnw:=hW.nw
  refine ⟨_,rfl,p,dx,_,rfl,ho,rfl,p,a,sas,v,late,seed,rfl,hS,Nat.le_trans hW.w0.sl (by decide),Nat.le_trans hW.w0.ho (by decide),hW.sn.sn,by omega,fun H1 qb s1 hqb=>?_⟩
  have hS1:=hS.same s1
  have ho1:=s1 _ _ ho
  obtain ⟨ks,hk1,hk2⟩:=hS1.kp
  have hq1:=hq.same s1
  have hv:valV (ks.map fun y=>(inK y,V.bl true)) (inK x)=none:=by
   have e:=Zc0 hk2 (x:=x)
   rw[hx] at e
   cases e2:valV (ks.map fun y=>(inK y,V.bl true)) (inK x) with
   | none=>rfl
   | some u=>rw[e2] at e;cases e
  have hkl:ks.length=v.all.length:=hk2.length_eq.symm
  refine ⟨_,rfl,p,_,dx,_,_,rfl,ho1,T.Z1,T.X2,rfl,_,rfl,a.dk,q,_,inK x,rfl,rfl,hk1,hq1,by rw[List.length_map,sizeLine_eq];omega,hv,?_⟩
  have eks:(ks.map fun y=>(inK y,V.bl true))++[(inK x,V.bl true)]=(ks++[x]).map fun y=>(inK y,V.bl true):=by rw[List.map_append];rfl
  rw[eks]
  have hperm:(Vbwsaf.put x v.all).Perm (ks++[x]):=(Zbo hx).trans (List.Perm.append_right _ hk2)
  have ho2:=Zm (o:=.dN ((ks++[x]).map fun y=>(inK y,V.bl true))) ho1 hS1.p_dk.symm
  have hW1:=hW.plus hx hb hl
  refine ⟨_,rfl,p,_,dx,_,_,rfl,ho2,T.Z1,T.X2,rfl,_,rfl,p,_,dx,_,_,rfl,ho2,T.Z1,T.Z2i,rfl,a.dk,ks++[x],Vbwsaf.put x v.all,v.rules.most,rfl,Z2,hperm,hW1.w0.ord,Nat.le_trans hW1.w0.al (by decide),Nat.le_trans hW.w0.mo.2 (by decide),fun H3 dc s3 hdc hct hfr=>?_⟩
  have nn:∀ {l:Addr},upd H1 a.dk (.dN ((ks++[x]).map fun y=>(inK y,V.bl true))) l=none→H1 l=none:=by
   intro l e
   by_cases hl:l=a.dk
   ·rw[hl,Z2] at e;cases e
   ·rw[Z8 hl] at e;exact e
  have ho3:=s3 _ _ ho2
  refine ⟨_,rfl,p,_,dx,_,rfl,ho3,T.Z1,T.Yw,(by show 14<1000;decide),?_⟩
  have ef:putF "counts" (V.ref dc) (seF v a)=seF (plus v x) { a with dc:=dc }:=rfl
  rw[ef]
  obtain ⟨hS4,f4⟩:=hS1.count (dx:=dx) s3 hperm (nn hdc) hct (fun kvs e kk u hu=>by obtain ⟨l,e1,e2⟩:=hfr kvs e kk u hu;exact ⟨l,e1,nn e2⟩)
  have lt4:SameLT H1 (upd H3 p (.ins T.cSession dx (seF (plus v x) { a with dc:=dc }))):=((SameLT.upd hk1 (fun _ z=>nomatch z) (fun _ z=>nomatch z)).trans (SameLT.of s3)).trans (SameLT.upd ho3 (fun _ z=>nomatch z) (fun _ z=>nomatch z))
  have hqb4:=lt4.lof hqb
  have ho4:upd H3 p (.ins T.cSession dx (seF (plus v x) { a with dc:=dc })) p=some (.ins T.cSession dx (seF (plus v x) { a with dc:=dc })):=Z2
  refine ⟨_,rfl,p,dx,_,rfl,ho4,rfl,p,_,sas,plus v x,late,seed,rfl,hS4,Nat.le_trans hW.w0.sl (by decide),Nat.le_trans hW.w0.ho (by decide),hW.sn.sn,(show v.now≤1000 by omega),fun H5 qa s5 hqa=>?_⟩
  have hS5:=SeAt.same hS4 s5
  have ho5:=s5 _ _ ho4
  have f5:=((Fr.of (M:=mset p a sas) s1).trans f4).trans (Fr.of s5)
  obtain ⟨bs,hb1,hb2⟩:=(SameLT.of s5).lof hqb4
  obtain ⟨as,ha1,ha2⟩:=hqa
  have la:as.length=v.now-v.settled:=by rw[Paired.length ha2,List.length_map,List.length_range]
  have lb:bs.length=v.now-v.settled:=by rw[Paired.length hb2,List.length_map,List.length_range]
  refine ⟨_,rfl,qa,_,rfl,.inl (SqL.of ha1),_,rfl,?_⟩
  have ll:(as.map V.ref).length=v.now-v.settled:=by rw[List.length_map,la]
  rw[ll]
  refine ⟨by omega,by omega,?_⟩
  rw[Int.toNat_natCast]
  have hsn:=hW.sn.sn
  have fc:Vbwsaf.firstChange v (plus v x)=((List.range (v.now-v.settled)).map fun i=>v.settled+1+i).find? fun t=>!Vbwsaf.sameDeeds (Vbwsaf.deedsIn v t) (Vbwsaf.deedsIn (plus v x) t):=rfl
  refine Jb (lo:=0) (n:=v.now-v.settled) (fun i σ H'=>∃ u:Option V,σ=[some (.ref p),some (.ref q),some (.ref qb),some (.ref qa),u]∧H'=H5∧∀ j,j<i→Vbwsaf.sameDeeds (Vbwsaf.deedsIn v (v.settled+1+j)) (Vbwsaf.deedsIn (plus v x) (v.settled+1+j))=true)
   ⟨none,rfl,rfl,fun j hj=>absurd hj (Nat.not_lt_zero _)⟩ ?_ ?_
  ·rintro i σ H6 hi ⟨u,rfl,rfl,hn⟩
   obtain ⟨b0,hb0⟩:∃ b0,bs[i]?=some b0:=⟨_,List.getElem?_eq_getElem (by omega)⟩
   obtain ⟨a0,ha0⟩:∃ a0,as[i]?=some a0:=⟨_,List.getElem?_eq_getElem (by omega)⟩
   obtain ⟨d1,hd1,rd1⟩:=Y5 hb2 hb0
   obtain ⟨d2,hd2,rd2⟩:=Y5 ha2 ha0
   rw[List.getElem?_map,List.getElem?_range hi] at hd1 hd2
   cases hd1
   cases hd2
   refine ⟨_,rfl,_,rfl,qb,_,_,_,rfl,rfl,SqL.of hb1,(by rw[Int.zero_add];exact Zl (by rw[List.getElem?_map,hb0];rfl)),_,rfl,_,rfl,qa,_,_,_,rfl,rfl,SqL.of ha1,(by rw[Int.zero_add];exact Zl (by rw[List.getElem?_map,ha0];rfl)),?_⟩
   refine ⟨_,_,ds_dp rd1,ds_dp rd2,Z79 _,Z79 _,_,rfl,?_⟩
   have ee:PyData.eqv (.list ((Vbwsaf.deedsIn v (v.settled+1+i)).map deD)) (.list ((Vbwsaf.deedsIn (plus v x) (v.settled+1+i)).map deD))=Vbwsaf.sameDeeds (Vbwsaf.deedsIn v (v.settled+1+i)) (Vbwsaf.deedsIn (plus v x) (v.settled+1+i)):=Zfw _ _
   refine ite2 (fun z=>?_) (fun z=>?_)
   ·have z:(!Vbwsaf.sameDeeds (Vbwsaf.deedsIn v (v.settled+1+i)) (Vbwsaf.deedsIn (plus v x) (v.settled+1+i)))=true:=by rw[← ee];exact z
    have hf:Vbwsaf.firstChange v (plus v x)=some (v.settled+1+i):=by
     rw[fc]
     refine Zb4 (i:=i) ?_ z fun j y hj e=>?_
     ·rw[List.getElem?_map,List.getElem?_range hi];rfl
     ·rw[List.getElem?_map,List.getElem?_range (by omega)] at e
      cases e
      show (!Vbwsaf.sameDeeds (Vbwsaf.deedsIn v (v.settled+1+j)) (Vbwsaf.deedsIn (plus v x) (v.settled+1+j)))=false
      rw[hn j hj]
      rfl
    have er:Vbwsaf.renewed Vbwsaf.cells v (plus v x)=Vbwsaf.again Vbwsaf.cells (plus v x) (v.settled+1+i):=by
     unfold Vbwsaf.renewed
     rw[hf]
    rw[er] at k
    refine ⟨_,rfl,p,dx,_,rfl,ho5,rfl,_,rfl,p,_,dx,_,_,rfl,ho5,T.Z1,T.Zn,rfl,_,_,rfl,rfl,_,rfl,_,_,rfl,rfl,?_⟩
    refine ⟨p,_,sas,plus v x,late,seed,v.settled+1+i,(by
     show [V.ref p,V.int ((v.settled:Int)+1+(0+(i:Int)))]=_
     rw[show ((v.settled:Int)+1+(0+(i:Int)))=((v.settled+1+i:Nat):Int) by omega]),hS5,hW1,(show v.settled<v.settled+1+i by omega),(show v.settled+1+i≤v.now by omega),fun H7 a7 hS7 w7 sn7 e7 f7=>?_⟩
    obtain ⟨e1,e2,e3,e4,e5⟩:=e7
    refine k (Vbwsaf.again Vbwsaf.cells (plus v x) (v.settled+1+i)).1 (Vbwsaf.again Vbwsaf.cells (plus v x) (v.settled+1+i)).2 H7 a7 rfl hS7 ⟨w7,sn7,by rw[e1];exact hW.nw,by rw[e1,e2];exact hW.ws,by rw[e3];exact hW.op⟩ e4 e5 (f5.trans f7)
   ·have z:Vbwsaf.sameDeeds (Vbwsaf.deedsIn v (v.settled+1+i)) (Vbwsaf.deedsIn (plus v x) (v.settled+1+i))=true:=by
     rw[← ee]
     cases e:PyData.eqv (.list ((Vbwsaf.deedsIn v (v.settled+1+i)).map deD)) (.list ((Vbwsaf.deedsIn (plus v x) (v.settled+1+i)).map deD)) with
     | true=>rfl
     | false=>exact absurd (by rw[e];rfl) z
    refine ⟨_,rfl,rfl,fun j hj=>?_⟩
    by_cases hji:j<i
    ·exact hn j hji
    ·have:j=i:=by omega
     subst this
     exact z
  ·rintro σ H6 ⟨u,rfl,rfl,hn⟩
   have hf:Vbwsaf.firstChange v (plus v x)=none:=by
    rw[fc,List.find?_eq_none]
    intro t ht
    obtain ⟨j,hj,rfl⟩:=List.mem_map.mp ht
    show ¬ (!Vbwsaf.sameDeeds (Vbwsaf.deedsIn v (v.settled+1+j)) (Vbwsaf.deedsIn (plus v x) (v.settled+1+j)))=true
    rw[hn j (List.mem_range.mp hj)]
    decide
   have er:Vbwsaf.renewed Vbwsaf.cells v (plus v x)=(plus v x,0):=by
    unfold Vbwsaf.renewed
    rw[hf]
   exact k _ 0 H6 _ er hS5 hW1 rfl rfl f5
end
end Pr
end
section
namespace Pr
open PySem PySem.Spec PyProof.Rows L2
open Vbwsaf (Input Deed Stay Window Cells)
section
variable {C CS:Addr} {H:Hp} {p:Addr} {a:Ad} {sas:List Addr} {v:Window Cells} {late:List (List Nat)} {seed:Int}
theorem SeAt.tardy (h:SeAt C CS H p a sas v late seed) (late':List (List Nat)) :
  SeAt C CS (upd H a.dl (.dT (ltK late'))) p a sas v late' seed∧Fr H (mset p a sas) (upd H a.dl (.dT (ltK late'))) (mset p a sas):=by
 obtain ⟨dx,h1⟩:=h.ob
 obtain ⟨ks,h2,hk⟩:=h.kp
 obtain ⟨cs,h4,h5⟩:=h.sn
 have nl:∀ {b:Addr} {o:HO},H b=some o→(∀ ys,o≠.dT ys)→b≠a.dl:=fun e q=>ne_of e h.lt (q _)
 have er:res (upd H a.dl (.dT (ltK late'))) (mset p a sas)=res H (mset p a sas):=Z04 (by simp)
 refine ⟨⟨⟨dx,Zm h1 (nl h1 (fun _ z=>nomatch z))⟩,Ws h.st (nl h.st.lst (fun _ z=>nomatch z)) (fun b hb=>?_),⟨ks,Zm h2 (nl h2 (fun _ z=>nomatch z)),hk⟩,Z2,⟨cs,Zm h4 (nl h4 (fun _ z=>nomatch z)),?_⟩,?_,?_,?_⟩,Fr.upd (by simp)⟩
 ·obtain ⟨s,_,dy,h6⟩:=Z35 h.st hb
  exact nl h6 (fun _ z=>nomatch z)
 ·rw[er];exact h5
 ·rw[er];exact h.ct
 ·rw[er];exact h.b0
 ·rw[er];exact h.cl
end
theorem ltK_put (late:List (List Nat)) (l:List Nat):putK (ltK late) (l.map fun (n:Nat)=>(Sum.inl (n:Int):Key)) (.bl true)=ltK (if late.contains l=false then l::late else late):=by
 unfold putK
 rw[W3,Zbx]
 cases e:late.contains l with
 | true=>
  rw[if_pos rfl,if_neg (by decide)]
  conv=>rhs;rw[← List.map_id (ltK late)]
  refine List.map_congr_left fun kv hkv=>?_
  obtain ⟨m,_,rfl⟩:=List.mem_map.mp hkv
  split <;> rfl
 | false=>
  rw[if_neg (by decide),if_pos rfl]
  unfold ltK
  rw[List.reverse_cons,List.map_append]
  rfl
noncomputable def nmL (x:Input):List Nat:=[x.player,x.stay,x.number]
def late' (late:List (List Nat)) (x:Input) (k:Nat):List (List Nat):=if k=2∧late.contains (nmL x)=false then nmL x::late else late
theorem Z4o (v:Window Cells) (x:Input):Vbwsaf.fate v x=match reason v x with
  | some r=>r
  | none=>if (Vbwsaf.countsFor v.rules.most (Vbwsaf.put x v.all) x.tick).any (Vbwsaf.alike x)=true then 1 else 5:=by
 unfold Vbwsaf.fate reason
 repeat' split
 all_goals first | rfl | simp_all
theorem Z9b (v:Window Cells) (x:Input):reason v x=some 4∨reason v x=some 2∨reason v x=some 3∨reason v x=some 0∨(reason v x=none∧v.all.any (Vbwsaf.alike x)=false):=by
 unfold reason
 by_cases h1:(Vbwsaf.stayOf v x.player).any (fun s=>s.stay==x.stay)=false
 ·rw[if_pos h1];exact .inl rfl
 ·rw[if_neg h1]
  by_cases h2:x.tick≤v.settled
  ·rw[if_pos h2];exact .inr (.inl rfl)
  ·rw[if_neg h2]
   by_cases h3:v.now+v.rules.ahead<x.tick
   ·rw[if_pos h3];exact .inr (.inr (.inl rfl))
   ·rw[if_neg h3]
    by_cases h4:v.all.any (Vbwsaf.alike x)=true
    ·rw[if_pos h4];exact .inr (.inr (.inr (.inl rfl)))
    ·rw[if_neg h4];exact .inr (.inr (.inr (.inr ⟨rfl,Bool.eq_false_iff.mpr h4⟩)))
theorem Z7c {v:Window Cells} {x:Input} {r:Nat} (h:reason v x=some r) (hr:Vbwsaf.taken r=false):Vbwsaf.arrive Vbwsaf.cells v x=(v,r,0):=by
 have e:Vbwsaf.fate v x=r:=by rw[Z4o,h]
 unfold Vbwsaf.arrive
 dsimp only
 rw[e,if_pos hr]
theorem Zdx {v:Window Cells} {x:Input} (h:reason v x=none):Vbwsaf.arrive Vbwsaf.cells v x=((Vbwsaf.renewed Vbwsaf.cells v (plus v x)).1,(if (Vbwsaf.countsOf v.rules.most (Vbwsaf.firsts (Vbwsaf.put x v.all)) x.tick).any (Vbwsaf.alike x)=true then 1 else 5),(Vbwsaf.renewed Vbwsaf.cells v (plus v x)).2):=by
 have e:Vbwsaf.fate v x=if (Vbwsaf.countsOf v.rules.most (Vbwsaf.firsts (Vbwsaf.put x v.all)) x.tick).any (Vbwsaf.alike x)=true then 1 else 5:=by rw[Z4o,h];rfl
 unfold Vbwsaf.arrive
 dsimp only
 rw[e]
 split <;> rfl
section
variable {P:Program} {w:World} {K:PySem.W.Frag} {mg:Str→Option Value} {base:Heap}
def Z47 (T:TX K mg):Sp:=fun vs H Q _=>∃ (p:Addr) (a:Ad) (sas:List Addr) (v:Window Cells) (late:List (List Nat)) (seed:Int) (q:Addr) (x:Input),vs=[.ref p,.ref q]∧Se T H p a sas v late seed∧W1 v∧InAt H q x∧v.all.length<100∧late.length≤1000∧InB x ∧
 ∀ (v':Window Cells) (r n:Nat) H' a' l,Vbwsaf.arrive Vbwsaf.cells v x=(v',r,n)→Se T H' p a' sas v' (late' late x r) seed→W1 v'→Fr H (mset p a sas) H' (mset p a' sas)→LI (res H' (mset p a' sas)) l [(r:Int),(n:Int)]→Q (.ref l) H'
theorem Z4z (T:TX K mg):FnOk P w K mg base CX0 10 T.Jd.f T.Jd.d ["self", "one"] (Z47 T):=by
 refine T.Jd.F.ok Jv (fun vs H Q E h=>?_) (fun cdv A outer s H vs Q E hr h=>?_)
 ·obtain ⟨p,a,sas,v,late,seed,q,x,rfl,_⟩:=h
  rfl
 ·obtain ⟨p,a,sas,v,late,seed,q,x,rfl,hS,hW,hq,hl,hll,hb,k⟩:=h
  obtain ⟨t_COUNTS,Z8m⟩:=T.Z8m
  obtain ⟨t_COUNTS_NOT,Z0g⟩:=T.Z0g
  obtain ⟨t_TOO_LATE,Js⟩:=T.Js
  have hu:=hu_of hr
  refine ⟨_,(Z4 (Zy (i:=2) Jv.nd rfl (Or.inl rfl) (Yf (pv 0) T.Z1 T.Zq.M (Ji T) (hr.mono (by decide)) T.Zq.b .nil pass0 (Z0 (pv 1) Z3)))
   (Z4 (ps_if (Uu (Z89 (pv 2))) (Z4 (ps_if (Zr op_eq (pv 2) (Zd (v:=.int 2) rfl Js ⟨t_TOO_LATE,rfl⟩) (Y8 _)) (Z5 (Zeu hu (Za (pv 0) rfl) (Zf (Z0t T) (hr.mono (by decide)) rfl T.name_of.m T.name_of.F.kp T.name_of.b .nil pass0 (Z0 (pv 1) Z3)) pe_bl rfl)) Zp)
   (Z5 (Zc (Zv (Z0 (pv 2) (Z0 Z9 Z3)))))) Zp)
   (Z4 (Zy (i:=3) Jv.nd rfl (Or.inl rfl) (Yf (pv 0) T.Z1 T.Je.M (Z50 T) (hr.mono (by decide)) T.Je.b .nil pass0 (Z0 (pv 1) Z3)))
   (Z5 (Zc (Zv (Z0 (Z27 (Z4q (Yf (pv 0) T.Z1 T.Zz.M (J9 T) (hr.mono (by decide)) T.Zz.b .nil pass0 (Z0 (pv 1) Z3))) (Zd (v:=.int 1) rfl Z8m ⟨t_COUNTS,rfl⟩) (Zd (v:=.int 5) rfl Z0g ⟨t_COUNTS_NOT,rfl⟩)) (Z0 (pv 3) Z3)))))))),?_⟩
  obtain ⟨dx,ho⟩:=hS.ob
  refine ⟨_,rfl,p,dx,_,rfl,ho,rfl,_,rfl,p,a,sas,v,late,seed,q,x,rfl,hS,hq,?_⟩
  have no:∀ (r:Nat),reason v x=some r→Vbwsaf.taken r=false→¬ r=2→Vbwsaf.arrive Vbwsaf.cells v x=(v,r,0)∧late' late x r=late:=by
   intro r e1 e2 e3
   refine ⟨Z7c e1 e2,?_⟩
   unfold late'
   rw[if_neg (fun z=>e3 z.1)]
  have newl:∀ {H1:Hp} {a1:Ad} {v1:Window Cells} {lt1:List (List Nat)} {l:Addr} {xs:List V},Se T H1 p a1 sas v1 lt1 seed→H1 l=none→res (upd H1 l (.lst xs)) (mset p a1 sas) l=some (.lst xs):=fun h e=>Y3 Z2 (SeAt.new h e)
  rcases Z9b v x with e | e | e | e | ⟨e,hx⟩
  ·obtain ⟨e1,e2⟩:=no 4 e rfl (by decide)
   have hS':=e2.symm ▸ hS
   rw[e]
   refine ⟨_,rfl,_,rfl,iteT ?_⟩
   refine ⟨_,rfl,rfl,_,rfl,iteF ?_⟩
   refine ⟨_,rfl,by show 2≤sizeLine;decide,fun l hl=>?_⟩
   exact k _ 4 0 _ a l e1 (SeAt.same hS' (Same.new hl)) hW (Fr.of (Same.new hl)) (newl hS hl)
  ·have e1:=Z7c e rfl
   rw[e]
   refine ⟨_,rfl,_,rfl,iteT ?_⟩
   refine ⟨_,rfl,rfl,_,rfl,iteT ?_⟩
   refine ⟨_,rfl,p,_,dx,_,_,rfl,ho,T.Z1,T.Xu,rfl,_,rfl,q,x,rfl,hq,fun q2 hq2=>?_⟩
   have s2:=Same.new (o:=.tup [.int (x.player:Int),.int (x.stay:Int),.int (x.number:Int)]) hq2
   have hS2:=hS.same s2
   obtain ⟨hS3,f3⟩:=hS2.tardy (late' late x 2)
   refine ⟨a.dl,_,rfl,DPut.t (k:=(nmL x).map fun (n:Nat)=>(Sum.inl (n:Int):Key)) hS2.lt Z2 (by unfold ltK;rw[List.length_map,List.length_reverse,sizeLine_eq];omega),?_⟩
   rw[ltK_put]
   have el:(if late.contains (nmL x)=false then nmL x::late else late)=late' late x 2:=by
    unfold late'
    by_cases z:late.contains (nmL x)=false
    ·rw[if_pos z,if_pos ⟨rfl,z⟩]
    ·rw[if_neg z,if_neg (fun y=>z y.2)]
   rw[el]
   refine ⟨_,rfl,by show 2≤sizeLine;decide,fun l hl=>?_⟩
   exact k _ 2 0 _ a l e1 (SeAt.same hS3 (Same.new hl)) hW (((Fr.of s2).trans f3).trans (Fr.of (Same.new hl))) (newl hS3 hl)
  ·obtain ⟨e1,e2⟩:=no 3 e rfl (by decide)
   have hS':=e2.symm ▸ hS
   rw[e]
   refine ⟨_,rfl,_,rfl,iteT ?_⟩
   refine ⟨_,rfl,rfl,_,rfl,iteF ?_⟩
   refine ⟨_,rfl,by show 2≤sizeLine;decide,fun l hl=>?_⟩
   exact k _ 3 0 _ a l e1 (SeAt.same hS' (Same.new hl)) hW (Fr.of (Same.new hl)) (newl hS hl)
  ·obtain ⟨e1,e2⟩:=no 0 e rfl (by decide)
   have hS':=e2.symm ▸ hS
   rw[e]
   refine ⟨_,rfl,_,rfl,iteT ?_⟩
   refine ⟨_,rfl,rfl,_,rfl,iteF ?_⟩
   refine ⟨_,rfl,by show 2≤sizeLine;decide,fun l hl=>?_⟩
   exact k _ 0 0 _ a l e1 (SeAt.same hS' (Same.new hl)) hW (Fr.of (Same.new hl)) (newl hS hl)
  ·have e1:=Zdx e
   rw[e]
   refine ⟨_,rfl,_,rfl,iteF ?_⟩
   refine ⟨_,rfl,p,dx,_,rfl,ho,rfl,_,rfl,p,a,sas,v,late,seed,q,x,rfl,hS,hW,hq,hx,hl,hb,fun v1 n H1 a1 er hS1 hW1 er1 er2 f1=>?_⟩
   rw[er] at e1
   obtain ⟨dx1,ho1⟩:=hS1.ob
   have hq1:InAt H1 q x:=by
    obtain ⟨d,q1,q2⟩:=hq
    exact ⟨d,(Uc (f1 _ _ (Y3 q1 (hS.notup q1)))).1,(Uc (f1 _ _ (Y3 q2 (hS.notup q2)))).1⟩
   refine ⟨_,rfl,p,dx1,_,rfl,ho1,rfl,_,rfl,p,a1,sas,v1,late,seed,q,x,rfl,hS1,hq1,fun H2 s2=>⟨_,rfl,?_⟩⟩
   rw[Zgb,er1,er2]
   have fin:∀ (r:Nat),Vbwsaf.arrive Vbwsaf.cells v x=(v1,r,n)→¬ r=2→∀ l,H2 l=none→Q (.ref l) (upd H2 l (.lst [V.int (r:Int),V.int (n:Int)])):=by
    intro r ea hr l hl
    have el:late' late x r=late:=by unfold late';rw[if_neg (fun z=>hr z.1)]
    have hS2:=(hS1.same s2).same (Same.new (o:=.lst [V.int (r:Int),V.int (n:Int)]) hl)
    rw[← el] at hS2
    exact k v1 r n _ a1 l ea hS2 hW1 ((f1.trans (Fr.of s2)).trans (Fr.of (Same.new hl))) (newl (hS1.same s2) hl)
   refine ite2 (fun z=>?_) (fun z=>?_)
   ·rw[if_pos z] at e1
    exact ⟨_,rfl,by show 2≤sizeLine;decide,fun l hl=>fin 1 e1 (by decide) l hl⟩
   ·rw[if_neg z] at e1
    exact ⟨_,rfl,by show 2≤sizeLine;decide,fun l hl=>fin 5 e1 (by decide) l hl⟩
end
end Pr
end
section
namespace Pr
open PySem PySem.Spec PyProof.Rows L2
open Vbwsaf (Input Deed Stay Window Cells)
structure Mkg (C x dx:Addr) (H:Hp) (fs:List (Str×V)) (L:List (Addr×HO)) (H1:Hp):Prop where
 ob:H1 x=some (.ins C dx fs)
 fr:∀ b u,H b=some u→b≠x→H1 b=some u
 at_:∀ q∈L,H1 q.1=some q.2∧q.1≠x∧H q.1=none
 nd:(L.map (·.1)).Nodup
theorem Mkg.set {C x dx:Addr} {H H1:Hp} {fs:List (Str×V)} {L:List (Addr×HO)} (h:Mkg C x dx H fs L H1) (gs:List (Str×V)):Mkg C x dx H gs L (upd H1 x (.ins C dx gs)):=
 ⟨Z2,fun b u e hb=>by rw[Z8 hb];exact h.fr b u e hb,fun q hq=>by obtain ⟨a,b,c⟩:=h.at_ q hq;exact ⟨by rw[Z8 b];exact a,b,c⟩,h.nd⟩
theorem Mkg.new {C x dx:Addr} {H H1 H2:Hp} {fs:List (Str×V)} {L:List (Addr×HO)} (h:Mkg C x dx H fs L H1) {n:Addr} {o:HO} (s:Same H1 H2) (hn:H1 n=none) (hn2:H2 n=some o):Mkg C x dx H fs ((n,o)::L) H2:=by
 have nx:n≠x:=fun e=>by rw[e,h.ob] at hn;cases hn
 refine ⟨s _ _ h.ob,fun b u e hb=>s _ _ (h.fr b u e hb),fun q hq=>?_,?_⟩
 ·rcases List.mem_cons.mp hq with e | hq
  ·rw[e]
   refine ⟨hn2,nx,?_⟩
   show H n=none
   cases e2:H n with
   | none=>rfl
   | some u=>rw[h.fr n u e2 nx] at hn;cases hn
  ·obtain ⟨a,b,c⟩:=h.at_ q hq
   exact ⟨s _ _ a,b,c⟩
 ·rw[List.map_cons,List.nodup_cons]
  refine ⟨fun hm=>?_,h.nd⟩
  obtain ⟨q,hq,e⟩:=List.mem_map.mp hm
  have e:q.1=n:=e
  obtain ⟨a,_,_⟩:=h.at_ q hq
  rw[e,hn] at a
  cases a
theorem Mkg.se {C CS x dx:Addr} {H H1:Hp} {o a m h e:Nat} {seed:Int} {ls dk dl dc b ds:Addr} (q:Mkg C x dx H (seF (Vbwsaf.opened ⟨o,a,m,h,e⟩ (Vbwsaf.first seed)) ⟨ls,dk,dl,dc,b,b,ds⟩) [(ds,.dK (snK [b] [(0,Vbwsaf.first seed)])),(b,.lst ((Vbwsaf.first seed).map V.int)),(dc,.dT []),(dl,.dT []),(dk,.dN []),(ls,.lst [])] H1) :
  SeAt C CS H1 x ⟨ls,dk,dl,dc,b,b,ds⟩ [] (Vbwsaf.opened ⟨o,a,m,h,e⟩ (Vbwsaf.first seed)) [] seed∧∀ c u,H c=some u→c≠x→H1 c=some u∧c ∉ mset x ⟨ls,dk,dl,dc,b,b,ds⟩ []:=by
 obtain ⟨d1,d2,d3⟩:=q.at_ _ (List.mem_cons_self ..)
 obtain ⟨b1,b2,b3⟩:=q.at_ _ (List.mem_cons_of_mem _ (List.mem_cons_self ..))
 obtain ⟨c1,c2,c3⟩:=q.at_ _ (List.mem_cons_of_mem _ (List.mem_cons_of_mem _ (List.mem_cons_self ..)))
 obtain ⟨l1,l2,l3⟩:=q.at_ _ (List.mem_cons_of_mem _ (List.mem_cons_of_mem _ (List.mem_cons_of_mem _ (List.mem_cons_self ..))))
 obtain ⟨k1,k2,k3⟩:=q.at_ _ (List.mem_cons_of_mem _ (List.mem_cons_of_mem _ (List.mem_cons_of_mem _ (List.mem_cons_of_mem _ (List.mem_cons_self ..)))))
 obtain ⟨s1,s2,s3⟩:=q.at_ _ (List.mem_cons_of_mem _ (List.mem_cons_of_mem _ (List.mem_cons_of_mem _ (List.mem_cons_of_mem _ (List.mem_cons_of_mem _ (List.mem_cons_self ..))))))
 have nd:=q.nd
 simp only[List.map_cons,List.map_nil,List.nodup_cons,List.mem_cons,List.not_mem_nil,or_false,not_or] at nd
 have hb:res H1 (mset x ⟨ls,dk,dl,dc,b,b,ds⟩ []) b=some (.lst ((Vbwsaf.first seed).map V.int)):=by
  refine Y3 b1 ?_
  simp only[List.mem_cons,List.not_mem_nil,or_false,not_or]
  exact ⟨b2,nd.2.1.2.2.2,nd.2.1.2.2.1,nd.2.1.2.1,fun e=>nd.1.1 e.symm⟩
 have hc:res H1 (mset x ⟨ls,dk,dl,dc,b,b,ds⟩ []) dc=some (.dT []):=by
  refine Y3 c1 ?_
  simp only[List.mem_cons,List.not_mem_nil,or_false,not_or]
  exact ⟨c2,nd.2.2.1.2.2,nd.2.2.1.2.1,nd.2.2.1.1,fun e=>nd.1.2.1 e.symm⟩
 refine ⟨⟨⟨dx,q.ob⟩,⟨s1,List.nodup_nil,.nil⟩,⟨[],k1,List.Perm.refl _⟩,l1,⟨[b],d1,.cons hb .nil⟩,?_,hb,hb⟩,fun c u ec hcx=>⟨q.fr c u ec hcx,?_⟩⟩
 ·refine ⟨⟨[],hc,fun t p=>⟨fun _=>?_,fun v e=>?_⟩⟩,fun t p=>?_⟩
  ·simp[Li.cnt,Vbwsaf.opened,Vbwsaf.firsts]
  ·cases e
  ·simp[Li.cnt,Vbwsaf.opened,Vbwsaf.firsts]
 ·simp only[List.mem_cons,List.not_mem_nil,or_false,not_or]
  refine ⟨hcx,?_,?_,?_,?_⟩
  ·intro z;rw[z] at ec;rw[ec] at s3;cases s3
  ·intro z;rw[z] at ec;rw[ec] at k3;cases k3
  ·intro z;rw[z] at ec;rw[ec] at l3;cases l3
  ·intro z;rw[z] at ec;rw[ec] at d3;cases d3
section
variable {P:Program} {w:World} {K:PySem.W.Frag} {mg:Str→Option Value} {base:Heap}
def Z49 (T:TX K mg):Sp:=fun vs H Q _=>∃ (x dx:Addr) (o a m h e:Nat) (seed:Int),vs=[.ref x,.int (o:Int),.int (a:Int),.int (m:Int),.int (h:Int),.int (e:Int),.int seed]∧H x=some (.ins T.cSession dx []) ∧
 ∀ H' ad,Se T H' x ad [] (Vbwsaf.opened ⟨o,a,m,h,e⟩ (Vbwsaf.first seed)) [] seed→(∀ b u,H b=some u→b≠x→H' b=some u∧b ∉ mset x ad [])→Q .non H'
theorem Z51 (T:TX K mg):FnOk P w K mg base CX0 2 T.Jf.f T.Jf.d ["self", "window", "ahead", "most", "held", "every", "seed"] (Z49 T):=by
 refine T.Jf.F.ok Z4g (fun vs H Q E h=>?_) (fun cdv A outer s H vs Q E hr h=>?_)
 ·obtain ⟨x,dx,o,a,m,h,e,seed,rfl,_⟩:=h
  rfl
 ·obtain ⟨x,dx,o,a,m,h,e,seed,rfl,hx,k⟩:=h
  refine ⟨_,(Z4 (Yu (pv 0) (pv 1) rfl)
   (Z4 (Yu (pv 0) (pv 2) rfl)
   (Z4 (Yu (pv 0) (pv 3) rfl)
   (Z4 (Yu (pv 0) (pv 4) rfl)
   (Z4 (Yu (pv 0) (pv 5) rfl)
   (Z4 (Yu (pv 0) (Zv Z3) rfl)
   (Z4 (Yu (pv 0) Zgu rfl)
   (Z4 (Yu (pv 0) Z88 rfl)
   (Z4 (Yu (pv 0) Z88 rfl)
   (Z4 (Yu (pv 0) Z9 rfl)
   (Z4 (Yu (pv 0) Z9 rfl)
   (Z4 (Yu (pv 0) (Zf (Z64 T) (hr.mono (by decide)) rfl T.first_cells.m T.first_cells.F.kp T.first_cells.b .nil pass0 (Z0 (pv 6) Z3)) rfl)
   (Z4 (Yu (pv 0) (Za (pv 0) rfl) rfl)
   (Z5 (Yu (pv 0) (pe_disp (Zgp Z9 (Za (pv 0) rfl) pps_nil) rfl rfl (by decide) (by decide)) rfl))))))))))))))),?_⟩
  have m0:Mkg T.cSession x dx H [] [] H:=⟨hx,fun _ _ e _=>e,fun q hq=>(nomatch hq),List.nodup_nil⟩
  refine ⟨_,rfl,_,rfl,x,_,dx,_,rfl,m0.ob,T.Z1,T.U4,(by show 0<1000;decide),?_⟩
  have m1:=m0.set [("window",V.int (o:Int))]
  refine ⟨_,rfl,_,rfl,x,_,dx,_,rfl,m1.ob,T.Z1,T.Z19,(by show 1<1000;decide),?_⟩
  have m2:=m1.set [("window",V.int (o:Int)),("ahead",V.int (a:Int))]
  refine ⟨_,rfl,_,rfl,x,_,dx,_,rfl,m2.ob,T.Z1,T.Z2i,(by show 2<1000;decide),?_⟩
  have m3:=m2.set [("window",V.int (o:Int)),("ahead",V.int (a:Int)),("most",V.int (m:Int))]
  refine ⟨_,rfl,_,rfl,x,_,dx,_,rfl,m3.ob,T.Z1,T.Z2j,(by show 3<1000;decide),?_⟩
  have m4:=m3.set [("window",V.int (o:Int)),("ahead",V.int (a:Int)),("most",V.int (m:Int)),("held",V.int (h:Int))]
  refine ⟨_,rfl,_,rfl,x,_,dx,_,rfl,m4.ob,T.Z1,T.Z18,(by show 4<1000;decide),?_⟩
  have m5:=m4.set [("window",V.int (o:Int)),("ahead",V.int (a:Int)),("most",V.int (m:Int)),("held",V.int (h:Int)),("every",V.int (e:Int))]
  refine ⟨Nat.zero_le _,fun ls hls=>?_⟩
  have m6:=m5.new (o:=.lst []) (Same.new hls) hls Z2
  refine ⟨_,rfl,x,_,dx,_,rfl,m6.ob,T.Z1,T.Zt,(by show 5<1000;decide),?_⟩
  have m7:=m6.set [("window",V.int (o:Int)),("ahead",V.int (a:Int)),("most",V.int (m:Int)),("held",V.int (h:Int)),("every",V.int (e:Int)),("stays",V.ref ls)]
  intro dk hdk
  have m8:=m7.new (o:=.dN []) (Same.new hdk) hdk Z2
  refine ⟨_,rfl,x,_,dx,_,rfl,m8.ob,T.Z1,T.X2,(by show 6<1000;decide),?_⟩
  have m9:=m8.set [("window",V.int (o:Int)),("ahead",V.int (a:Int)),("most",V.int (m:Int)),("held",V.int (h:Int)),("every",V.int (e:Int)),("stays",V.ref ls),("kept",V.ref dk)]
  intro dl hdl
  have m10:=m9.new (o:=.dT []) (Same.new hdl) hdl Z2
  refine ⟨_,rfl,x,_,dx,_,rfl,m10.ob,T.Z1,T.Xu,(by show 7<1000;decide),?_⟩
  have m11:=m10.set [("window",V.int (o:Int)),("ahead",V.int (a:Int)),("most",V.int (m:Int)),("held",V.int (h:Int)),("every",V.int (e:Int)),("stays",V.ref ls),("kept",V.ref dk),("late",V.ref dl)]
  intro dc hdc
  have m12:=m11.new (o:=.dT []) (Same.new hdc) hdc Z2
  refine ⟨_,rfl,x,_,dx,_,rfl,m12.ob,T.Z1,T.Yw,(by show 8<1000;decide),?_⟩
  have m13:=m12.set [("window",V.int (o:Int)),("ahead",V.int (a:Int)),("most",V.int (m:Int)),("held",V.int (h:Int)),("every",V.int (e:Int)),("stays",V.ref ls),("kept",V.ref dk),("late",V.ref dl),("counts",V.ref dc)]
  refine ⟨_,rfl,x,_,dx,_,rfl,m13.ob,T.Z1,T.Zh,(by show 9<1000;decide),?_⟩
  have m14:=m13.set [("window",V.int (o:Int)),("ahead",V.int (a:Int)),("most",V.int (m:Int)),("held",V.int (h:Int)),("every",V.int (e:Int)),("stays",V.ref ls),("kept",V.ref dk),("late",V.ref dl),("counts",V.ref dc),("made",V.int 0)]
  refine ⟨_,rfl,x,_,dx,_,rfl,m14.ob,T.Z1,T.Zn,(by show 10<1000;decide),?_⟩
  have m15:=m14.set [("window",V.int (o:Int)),("ahead",V.int (a:Int)),("most",V.int (m:Int)),("held",V.int (h:Int)),("every",V.int (e:Int)),("stays",V.ref ls),("kept",V.ref dk),("late",V.ref dl),("counts",V.ref dc),("made",V.int 0),("settled",V.int 0)]
  refine ⟨_,rfl,seed,rfl,fun H16 b s16 hb hlb=>?_⟩
  have m16:=m15.new (o:=.lst ((Vbwsaf.first seed).map V.int)) s16 hb hlb
  refine ⟨_,rfl,x,_,dx,_,rfl,m16.ob,T.Z1,T.Xv,(by show 11<1000;decide),?_⟩
  have m17:=m16.set [("window",V.int (o:Int)),("ahead",V.int (a:Int)),("most",V.int (m:Int)),("held",V.int (h:Int)),("every",V.int (e:Int)),("stays",V.ref ls),("kept",V.ref dk),("late",V.ref dl),("counts",V.ref dc),("made",V.int 0),("settled",V.int 0),("beginning",V.ref b)]
  refine ⟨_,rfl,x,_,dx,_,_,rfl,m17.ob,T.Z1,T.Xv,rfl,_,rfl,x,_,dx,_,rfl,m17.ob,T.Z1,T.Yo,(by show 12<1000;decide),?_⟩
  have m18:=m17.set [("window",V.int (o:Int)),("ahead",V.int (a:Int)),("most",V.int (m:Int)),("held",V.int (h:Int)),("every",V.int (e:Int)),("stays",V.ref ls),("kept",V.ref dk),("late",V.ref dl),("counts",V.ref dc),("made",V.int 0),("settled",V.int 0),("beginning",V.ref b),("cells",V.ref b)]
  intro ds hds
  have m19:=m18.new (o:=.dK []) (Same.new hds) hds Z2
  refine ⟨_,rfl,x,_,dx,_,_,rfl,m19.ob,T.Z1,T.Yo,rfl,Z2,[(Sum.inl 0,.ref b)],rfl,(by show 1≤15;decide),?_⟩
  rw[show mergeK [] [((Sum.inl 0:Key),V.ref b)]=snK [b] [(0,Vbwsaf.first seed)] from rfl,Z7h]
  have m20:=m18.new (o:=.dK (snK [b] [(0,Vbwsaf.first seed)])) (Same.new hds) hds Z2
  refine ⟨_,rfl,x,_,dx,_,rfl,m20.ob,T.Z1,T.Zo,(by show 13<1000;decide),?_⟩
  have m21:=m20.set (seF (Vbwsaf.opened ⟨o,a,m,h,e⟩ (Vbwsaf.first seed)) ⟨ls,dk,dl,dc,b,b,ds⟩)
  obtain ⟨r1,r2⟩:=m21.se (CS:=T.cStay)
  exact k _ _ r1 r2
end
end Pr
end
section
namespace Pr
open PySem PySem.Spec PyProof.Rows L2
open Vbwsaf (Input Deed Stay Window Cells)
theorem for_gen {J:It} {n:Nat} {g:TG} {tb:TS} {D:Ends} {σ:L2.St} {H:Hp} (Pv:Nat→L2.St→Hp→Prop) (h0:Pv 0 σ H) (hgo:∀ i σ H,i<n→Pv i σ H→J.go i H) (hst:∀ σ H,Pv n σ H→J.stop n H)
  (hs:∀ i σ H x H',i<n→Pv i σ H→J.yld i H x H'→g x σ H' fun σ2 H2=>tb { D with nx:=Pv (i+1),ct:=Pv (i+1),bk:=D.nx } σ2 H2) (hd:∀ σ H,Pv n σ H→D.nx σ H) :
  ∃ W:Nat→Nat→L2.St→Hp→Prop,(∃ m,W 0 m σ H)∧∀ i m σ H,W i m σ H →
   (J.stop i H∧D.nx σ H)∨(J.go i H∧∃ N:L2.St→Hp→Prop,(∀ σ' H',N σ' H'→∃ m',m'<m∧W (i+1) m' σ' H')∧∀ x H',J.yld i H x H'→g x σ H' fun σ2 H2=>tb { D with nx:=N,ct:=N,bk:=D.nx } σ2 H2):=by
 refine ⟨fun i m σ H=>m=n-i∧i≤n∧Pv i σ H,⟨n,by simp,Nat.zero_le _,h0⟩,?_⟩
 rintro i m σ H ⟨rfl,hi,p⟩
 by_cases e:i=n
 ·subst e
  exact .inl ⟨hst _ _ p,hd _ _ p⟩
 ·have hlt:i<n:=by omega
  exact .inr ⟨hgo _ _ _ hlt p,Pv (i+1),fun σ' H' q=>⟨n-(i+1),by omega,rfl,by omega,q⟩,fun x H' y=>hs i σ H x H' hlt p y⟩
theorem Zcc (nums:List Int) (k:Nat) (hk:k≤nums.length):cutV (nums.map V.int) (some (k:Int)) none=(nums.drop k).map V.int:=by
 unfold cutV
 have e:HT.sIx (nums.map V.int).length 0 (some (k:Int))=k:=by
  rw[HT.Z4m,List.length_map]
  omega
 rw[e]
 have e2:HT.sIx (nums.map V.int).length (nums.map V.int).length none=(nums.map V.int).length:=rfl
 rw[e2,List.take_of_length_le (by rw[List.length_drop];omega),List.map_drop]
theorem Zg4 (nums:List Int) (i j:Nat) (hi:i≤j) (hj:j≤nums.length):cutV (nums.map V.int) (some (i:Int)) (some (j:Int))=((nums.drop i).take (j-i)).map V.int:=by
 unfold cutV
 have e:HT.sIx (nums.map V.int).length 0 (some (i:Int))=i:=by
  rw[HT.Z4m,List.length_map]
  omega
 have e2:HT.sIx (nums.map V.int).length (nums.map V.int).length (some (j:Int))=j:=by
  rw[HT.Z4m,List.length_map]
  omega
 rw[e,e2,List.map_take,List.map_drop]
theorem Wg {α β:Type} {f:α→Option β}:∀ {l:List α} {m:List β},l.mapM f=some m→Paired (fun x y=>f x=some y) l m
 | [],m,h=>by
  rw[List.mapM_nil] at h
  cases h
  exact .nil
 | x::l,m,h=>by
  rw[List.mapM_cons] at h
  cases e:f x with
  | none=>rw[e] at h;cases h
  | some y=>
   cases e2:l.mapM f with
   | none=>rw[e,e2] at h;cases h
   | some m'=>
    rw[e,e2] at h
    cases h
    exact .cons e (Wg e2)
noncomputable def rowOf (q:Nat):List (Int×Int):=(ranges.lookup (q:Int)).getD []
theorem Zen {K:PySem.W.Frag} {kv:Int×V} {r:Int×List (Int×Int)} (h:rowRead K kv=some r):kv.1=r.1∧∃ a vs,kv.2=.ref a∧ktRead K a=some vs∧vs.mapM (pairRead K)=some r.2:=by
 obtain ⟨i,v⟩:=kv
 cases v with
 | ref a=>
  unfold rowRead at h
  cases e:ktRead K a with
  | none=>simp only[e] at h;cases h
  | some vs=>
   simp only[e] at h
   cases e2:vs.mapM (pairRead K) with
   | none=>simp only[e2] at h;cases h
   | some l=>
    simp only[e2,Option.map_some] at h
    cases h
    exact ⟨rfl,a,vs,rfl,e,e2⟩
 | _=>cases h
theorem Zgx {K:PySem.W.Frag} {u:V} {lh:Int×Int} (h:pairRead K u=some lh):∃ a,u=.ref a∧ktRead K a=some [.int lh.1,.int lh.2]:=by
 cases u with
 | ref a=>
  unfold pairRead at h
  cases e:ktRead K a with
  | none=>simp only[e] at h;cases h
  | some vs=>
   simp only[e] at h
   split at h
   ·rename_i x y hx
    cases h
    cases hx
    exact ⟨a,rfl,e⟩
   ·cases h
 | _=>cases h
theorem Z4n {K:PySem.W.Frag}:∀ {kvs:List (Int×V)} {rs:List (Int×List (Int×Int))},Paired (fun x y=>rowRead K x=some y) kvs rs→∀ {q:Int} {row:List (Int×Int)},rs.lookup q=some row→∃ a vs,kvs.lookup q=some (.ref a)∧ktRead K a=some vs∧vs.mapM (pairRead K)=some row
 | _,_,.nil,q,row,h=>by cases h
 | _,_,@Paired.cons _ _ _ kv r kvs rs hr t,q,row,h=>by
  obtain ⟨e1,a,vs,e2,e3,e4⟩:=Zen hr
  obtain ⟨i,v⟩:=kv
  obtain ⟨j,l⟩:=r
  have e1:i=j:=e1
  have e2:v=.ref a:=e2
  subst e1 e2
  rw[List.lookup_cons] at h ⊢
  cases z:q==i with
  | true=>
   rw[z] at h
   cases h
   exact ⟨a,vs,rfl,e3,e4⟩
  | false=>
   rw[z] at h
   exact Z4n t h
theorem keys_eq {K:PySem.W.Frag} {kvs:List (Int×V)} {rs:List (Int×List (Int×Int))} (h:Paired (fun x y=>rowRead K x=some y) kvs rs):kvs.map (·.1)=rs.map (·.1):=by
 induction h with
 | nil=>rfl
 | cons r t ih=>rw[List.map_cons,List.map_cons,ih,(Zen r).1]
section
variable {P:Program} {w:World} {K:PySem.W.Frag} {mg:Str→Option Value} {base:Heap}
theorem TX.ranges (T:TX K mg):∃ kvs,KD K T.aRANGES kvs∧∀ q:Nat,q<16→∃ a vs,kvs.lookup (q:Int)=some (.ref a)∧ktRead K a=some vs∧vs.mapM (pairRead K)=some (rowOf q):=by
 have h:=T.r_RANGES
 unfold rngRead at h
 cases e:kdRead K T.aRANGES with
 | none=>rw[e] at h;cases h
 | some kvs=>
  rw[e] at h
  have hp:=Wg h
  refine ⟨kvs,Z5b e ?_,fun q hq=>?_⟩
  ·rw[keys_eq hp]
   decide
  ·have:∃ row,Pr.ranges.lookup (q:Int)=some row:=by
    have:∀ q:Fin 16,(Pr.ranges.lookup ((q:Nat):Int)).isSome=true:=by decide
    have:=this ⟨q,hq⟩
    exact Option.isSome_iff_exists.mp this
   obtain ⟨row,hrow⟩:=this
   obtain ⟨a,vs,h1,h2,h3⟩:=Z4n hp hrow
   refine ⟨a,vs,h1,h2,?_⟩
   unfold rowOf
   rw[hrow]
   exact h3
theorem TX.kROWS (T:TX K mg):KD K T.aROWS [(3,.ref T.tROWS)]:=Z5b T.r_ROWS (by simp)
theorem rI {mg:Str→Option Value} {x:Str} {a b:Addr} (h:mg x=some (.ref a)) (g:mg x=some (.ref b)):a=b:=by cases h.symm.trans g;rfl
theorem TX.kDOERS (T:TX K mg):KD K T.aDOERS [(1,.ref T.join_player.f),(2,.ref T.leave_player.f),(3,.ref T.take_one.f),(4,.ref T.make_ticks.f),(5,.ref T.lock_ticks.f),(6,.ref T.resize_window.f),(7,.ref T.tell_world.f),(8,.ref T.tell_counts.f),(9,.ref T.tell_deeds.f),(10,.ref T.tell_fate.f),(11,.ref T.tell_snapshots.f),(12,.ref T.tell_now.f),(13,.ref T.tell_stays.f),(14,.ref T.tell_ready.f),(15,.ref T.tell_plain.f)]:=by
 obtain ⟨f1,f2,f3,f4,f5,f6,f7,f8,f9,f10,f11,f12,f13,f14,f15,h,e1,e2,e3,e4,e5,e6,e7,e8,e9,e10,e11,e12,e13,e14,e15⟩:=T.r_DOERS
 rw[rI e1 T.join_player.m,rI e2 T.leave_player.m,rI e3 T.take_one.m,rI e4 T.make_ticks.m,rI e5 T.lock_ticks.m,rI e6 T.resize_window.m,rI e7 T.tell_world.m,rI e8 T.tell_counts.m,rI e9 T.tell_deeds.m,rI e10 T.tell_fate.m,rI e11 T.tell_snapshots.m,rI e12 T.tell_now.m,rI e13 T.tell_stays.m,rI e14 T.tell_ready.m,rI e15 T.tell_plain.m] at h
 exact Z5b h (by simp)
def Z90 (T:TX K mg):Sp:=fun vs H Q _=>∃ (x dx:Addr),vs=[.ref x]∧H x=some (.ins T.cLine dx [])∧Q .non (upd H x (.ins T.cLine dx [("session",.non)]))
theorem Z9j (T:TX K mg):FnOk P w K mg base CX0 1 T.Line_init.f T.Line_init.d ["self"] (Z90 T):=by
 refine T.Line_init.F.ok Z96 (fun vs H Q E h=>?_) (fun cdv A outer s H vs Q E hr h=>?_)
 ·obtain ⟨x,dx,rfl,_⟩:=h
  rfl
 ·obtain ⟨x,dx,rfl,hx,k⟩:=h
  refine ⟨_,(Z5 (Yu (pv 0) Z6t rfl)),?_⟩
  refine ⟨_,rfl,x,_,dx,_,rfl,hx,T.Yp,T.Ze,(by show 0<1000;decide),?_⟩
  exact k
noncomputable def rowFits (q:Nat) (row:List Int):Bool:=if q=3 then decide (row.length≤4)&&row.all fun z=>decide (-1000000≤z)&&decide (z≤1000000) else true
def Za9 (T:TX K mg):Sp:=fun vs H Q _=>∃ (q:Nat) (r:Addr) (row:List Int),vs=[.int (q:Int),.ref r]∧LI H r row∧row.length≤1000000∧∀ H',Same H H'→Q (.bl (rowFits q row)) H'
theorem Zar (T:TX K mg):FnOk P w K mg base CX0 1 T.row_fits.f T.row_fits.d ["call", "row"] (Za9 T):=by
 refine T.row_fits.F.ok W8 (fun vs H Q E h=>?_) (fun cdv A outer s H vs Q E hr h=>?_)
 ·obtain ⟨q,r,row,rfl,_⟩:=h
  rfl
 ·obtain ⟨q,r,row,rfl,hrow,hlen,k⟩:=h
  refine ⟨_,(Z4 (ps_if (Uu (pc_knin T.kROWS rfl T.m_ROWS (pv 0))) (Z5 (Zc pe_bl)) Zp)
   (Z4 (Zy (i:=2) W8.nd rfl (Or.inr rfl) (Z87 T.kROWS rfl T.m_ROWS (pv 0) (fun _ _=>rfl)))
   (Z5 (Zc (Zf2 (Z4t op_le (Zu Y2 rfl T.b_len Jo (Z0 (pv 1) Z3)) (pe_ix Yg (pv 2) Z9 (fun _ _=>rfl)) (Y8 _)) (Zbq (Zu (cr_all rfl) rfl T.b_all bt_all (Z0 (pe_lc (own:=[("number",3)]) rfl W8.nd (Ul (pv 1)) (Xw rfl) (fun _ _ _ _ _=>(Y4 (i:=3) W8.nd rfl (Or.inl rfl))) (fun _ _ _ _ _=>Z1j) (fun _ _ _ _ _=>(Zgw op_le op_le (pe_ix (Zfj (K:=K)) (pv 2) Z9 (fun _ _=>rfl)) (pv 3) (pe_ix (Zfj (K:=K)) (pv 2) Z9 (fun _ _=>rfl))))) Z3)))))))),?_⟩
  refine ⟨_,rfl,_,rfl,_,rfl,?_⟩
  have hk:(List.lookup (q:Int) [((3:Int),V.ref T.tROWS)]).isSome=decide (q=3):=by
   rw[List.lookup_cons]
   by_cases z:q=3
   ·subst z;rfl
   ·rw[show ((q:Int)==3)=false from beq_eq_false_iff_ne.mpr (by omega),decide_eq_false z];rfl
  rw[hk]
  by_cases z:q=3
  ·subst z
   refine iteF ?_
   have ht:SqT K H T.tROWS [.int 4,.int (-1000000),.int 1000000]:=Z0d T.t_ROWS
   refine ⟨_,rfl,_,_,rfl,rfl,_,rfl,r,_,rfl,.inl (SqL.of hrow),_,rfl,T.tROWS,_,_,_,rfl,rfl,ht,Zl (j:=0) rfl,_,_,rfl,rfl,_,rfl,?_⟩
   have el:(decide (((row.map V.int).length:Int)≤4))=decide (row.length≤4):=by
    rw[List.length_map,Bool.eq_iff_iff,decide_eq_true_eq,decide_eq_true_eq]
    omega
   rw[el]
   unfold rowFits at k
   rw[if_pos rfl] at k
   refine ite2 (fun z=>?_) (fun z=>?_)
   ·refine ⟨_,rfl,r,rfl,⟨_,SqL.of hrow⟩,fun D hD=>?_⟩
    refine Z59 (K:=K) (a:=r) (xs:=row.map V.int) (fun i H'=>Same H H'∧H' D=some (.lst (((row.take i).map fun z=>decide (-1000000≤z)&&decide (z≤1000000)).map V.bl))) ⟨Same.new hD,Z2⟩ (fun i H' _ q=>SqL.of (q.1 _ _ hrow)) ?_ ?_
    ·rintro i x H1 hi ⟨s1,h1⟩
     rw[List.getElem?_map] at hi
     cases e:row[i]? with
     | none=>rw[e] at hi;cases hi
     | some y=>
      rw[e] at hi
      cases hi
      have hilt:=(List.getElem?_eq_some_iff.mp e).1
      have ht1:SqT K H1 T.tROWS [.int 4,.int (-1000000),.int 1000000]:=Z0d T.t_ROWS
      refine ⟨rfl,?_⟩
      simp only[tYes,if_true]
      have fin:∀ b:Bool,b=(decide (-1000000≤y)&&decide (y≤1000000))→∃ acc,H1 D=some (.lst acc)∧acc.length<sizeLine∧Same H (upd H1 D (.lst (acc++[V.bl b])))∧upd H1 D (.lst (acc++[V.bl b])) D=some (.lst (((row.take (i+1)).map fun z=>decide (-1000000≤z)&&decide (z≤1000000)).map V.bl)):=by
       rintro b rfl
       refine ⟨_,h1,?_,Wa s1 hD,?_⟩
       ·rw[List.length_map,List.length_map,List.length_take,sizeLine_eq];omega
       ·rw[Z2,List.take_add_one,e,List.map_append,List.map_append];rfl
      refine ⟨_,rfl,T.tROWS,_,_,_,rfl,rfl,ht1,Zl (j:=1) rfl,_,rfl,_,_,rfl,rfl,_,rfl,?_⟩
      refine ite2 (fun z=>?_) (fun z=>?_)
      ·refine ⟨_,rfl,T.tROWS,_,_,_,rfl,rfl,ht1,Zl (j:=2) rfl,_,_,rfl,rfl,fin _ ?_⟩
       rw[z,Bool.true_and]
      ·exact fin _ (by rw[Bool.eq_false_iff.mpr z,Bool.false_and])
    ·rintro H1 ⟨s1,h1⟩
     rw[List.length_map,List.take_length] at h1
     refine ⟨D,_,rfl,SqL.of h1,?_⟩
     have e2:((row.map fun z=>decide (-1000000≤z)&&decide (z≤1000000)).all id)=row.all fun z=>decide (-1000000≤z)&&decide (z≤1000000):=by
      rw[List.all_map];rfl
     rw[e2]
     rw[z,Bool.true_and] at k
     exact k H1 s1
   ·rw[Bool.eq_false_iff.mpr z,Bool.false_and] at k
    exact k H (Same.refl H)
  ·rw[decide_eq_false z]
   refine iteT ?_
   unfold rowFits at k
   rw[if_neg z] at k
   exact k H (Same.refl H)
noncomputable def inR (lh:Int×Int) (n:Int):Bool:=decide (lh.1≤n)&&decide (n≤lh.2)
def numsFit (q:Nat) (nums:List Int):Bool:=(((rowOf q).zip nums).all fun x=>inR x.1 x.2)&&rowFits q (nums.drop (rowOf q).length)
def Z5r (T:TX K mg):Sp:=fun vs H Q _=>∃ (q:Nat) (r:Addr) (nums:List Int),vs=[.int (q:Int),.ref r]∧q<16∧LI H r nums∧nums.length≤1000000∧(rowOf q).length≤nums.length∧∀ H',Same H H'→Q (.bl (numsFit q nums)) H'
theorem Z61 (T:TX K mg):FnOk P w K mg base CX0 2 T.numbers_fit.f T.numbers_fit.d ["call", "numbers"] (Z5r T):=by
 refine T.numbers_fit.F.ok J6 (fun vs H Q E h=>?_) (fun cdv A outer s H vs Q E hr h=>?_)
 ·obtain ⟨q,r,nums,rfl,_⟩:=h
  rfl
 ·obtain ⟨q,r,nums,rfl,hq,hnum,hlen,hrl,k⟩:=h
  obtain ⟨kR,hKD,hRow⟩:=T.ranges
  refine ⟨_,(Z4 (Zy (i:=2) J6.nd rfl (Or.inl rfl) (Z87 hKD rfl T.m_RANGES (pv 0) (fun _ _=>rfl)))
   (Z4 (Jy PassesOwn.never rfl (pi_zipT rfl T.b_zip (Z0 (pv 2) (Z0 (pv 1) Z3))) (Zhk (n:=2) rfl (Z3w (Y4 (i:=3) J6.nd rfl (Or.inl rfl)) (Z3w (Y4 (i:=4) J6.nd rfl (Or.inl rfl)) Zex))) (Z5 (ps_if (Zbn (Zgn op_le op_le (pe_ix Yg (pv 3) Z9 (fun _ _=>rfl)) (pv 4) (pe_ix Yg (pv 3) Z9 (fun _ _=>rfl)))) (Z5 (Zc pe_bl)) Zp)))
   (Z5 (Zc (Zf (Zar T) (hr.mono (by decide)) rfl T.row_fits.m T.row_fits.F.kp T.row_fits.b .nil pass0 (Z0 (pv 0) (Z0 (Z0s Z7u (pv 1) (Z05 (Zu Y2 rfl T.b_len Jo (Z0 (pv 2) Z3))) Z85) Z3))))))),?_⟩
  obtain ⟨ar,vs,e1,e2,e3⟩:=hRow q hq
  have hpr:=Wg e3
  have lv:vs.length=(rowOf q).length:=Paired.length hpr
  have sqr:∀ {H:Hp},SqT K H ar vs:=fun {H}=>Z0d e2
  refine ⟨_,rfl,_,_,rfl,e1,_,rfl,_,rfl,ar,r,_,_,rfl,sqr,SqL.of hnum,?_⟩
  refine for_gen (J:=Itzt K ar r) (n:=(rowOf q).length) (fun i σ H'=>∃ u1 u2:Option V,σ=[some (.int (q:Int)),some (.ref r),some (.ref ar),u1,u2]∧Same H H'∧∀ (j:Nat) (x:(Int×Int)×Int),j<i→((rowOf q).zip nums)[j]?=some x→inR x.1 x.2=true)
   ⟨none,none,rfl,Same.refl H,fun j _ hj=>absurd hj (Nat.not_lt_zero _)⟩ ?_ ?_ ?_ ?_
  ·rintro i σ H1 hi ⟨u1,u2,rfl,s1,hn⟩
   exact ⟨vs,nums.map V.int,_,_,sqr,SqL.of (s1 _ _ hnum),List.getElem?_eq_getElem (by omega),List.getElem?_eq_getElem (by rw[List.length_map];omega)⟩
  ·rintro σ H1 ⟨u1,u2,rfl,s1,hn⟩
   exact ⟨vs,nums.map V.int,sqr,SqL.of (s1 _ _ hnum),.inl (by omega)⟩
  ·rintro i σ H1 x1 H2 hi ⟨u1,u2,rfl,s1,hn⟩ ⟨t0,x,y,rfl,ht0,rfl,hx,hy⟩
   have hx:=hx vs sqr
   have hy:=hy _ (SqL.of (s1 _ _ hnum))
   obtain ⟨lh,hlh,hpx⟩:=Y5 hpr hx
   obtain ⟨b,rfl,hb⟩:=Zgx hpx
   rw[List.getElem?_map] at hy
   cases e:nums[i]? with
   | none=>rw[e] at hy;cases hy
   | some z=>
    rw[e] at hy
    cases hy
    have s2:=s1.trans (Same.new (o:=.tup [V.ref b,V.int z]) ht0)
    have hbq:∀ {H:Hp},SqT K H b [.int lh.1,.int lh.2]:=fun {H}=>Z0d hb
    have hzip:((rowOf q).zip nums)[i]?=some (lh,z):=by
     rw[List.getElem?_zip_eq_some]
     exact ⟨hlh,e⟩
    have bad:inR lh z=false→Q (.bl false) (upd H1 t0 (.tup [V.ref b,V.int z])):=by
     intro hb
     have:numsFit q nums=false:=by
      unfold numsFit
      rw[Bool.and_eq_false_iff]
      left
      rw[List.all_eq_false]
      exact ⟨(lh,z),List.mem_of_getElem? hzip,by rw[hb];decide⟩
     have q:=k _ s2
     rw[this] at q
     exact q
    have good:inR lh z=true→∀ (j:Nat) (x:(Int×Int)×Int),j<i+1→((rowOf q).zip nums)[j]?=some x→inR x.1 x.2=true:=by
     intro hb j x hj ej
     by_cases hji:j<i
     ·exact hn j x hji ej
     ·have:j=i:=by omega
      subst this
      rw[hzip] at ej
      cases ej
      exact hb
    refine ⟨t0,_,rfl,SqT.of Z2,rfl,_,_,rfl,_,_,rfl,rfl,_,rfl,b,_,_,_,rfl,rfl,hbq,Zl (j:=0) rfl,_,rfl,_,_,rfl,rfl,_,rfl,?_⟩
    refine ite2 (fun z1=>?_) (fun z1=>?_)
    ·refine ⟨_,rfl,b,_,_,_,rfl,rfl,hbq,Zl (j:=1) rfl,_,_,rfl,rfl,_,rfl,?_⟩
     cases z2:decide (z≤lh.2) with
     | true=>exact iteF ⟨_,_,rfl,s2,good (by unfold inR;rw[z1,z2];rfl)⟩
     | false=>exact iteT (bad (by unfold inR;rw[z1,z2];rfl))
    ·exact ⟨_,rfl,iteT (bad (by unfold inR;rw[Bool.eq_false_iff.mpr z1];rfl))⟩
  ·rintro σ H1 ⟨u1,u2,rfl,s1,hn⟩
   have l2:(rowOf q).length=vs.length:=lv.symm
   refine ⟨_,rfl,_,rfl,_,rfl,ar,vs,rfl,.inr sqr,_,rfl,r,_,rfl,SqL.of (s1 _ _ hnum),fun n hn2=>?_⟩
   rw[Zcc nums _ (by omega)]
   refine ⟨q,n,nums.drop vs.length,rfl,Z2,by rw[List.length_drop];omega,fun H2 s2=>?_⟩
   have e0:numsFit q nums=rowFits q (nums.drop vs.length):=by
    unfold numsFit
    rw[lv]
    have:(((rowOf q).zip nums).all fun x=>inR x.1 x.2)=true:=by
     rw[List.all_eq_true]
     intro x hx
     obtain ⟨j,hj⟩:=List.mem_iff_getElem?.mp hx
     have hjl:=(List.getElem?_eq_some_iff.mp hj).1
     rw[List.length_zip] at hjl
     exact hn j x (by omega) hj
    rw[this,Bool.true_and]
   rw[← e0]
   exact k _ ((s1.trans (Same.new hn2)).trans s2)
end
end Pr
end
section
namespace Pr
open Vbwsaf (Input Deed Stay Window Cells State guarded)
theorem Zi (s:State) (c:Int) (b:Bool) (l:List (Int×Bool)) (k:Unit→State×List Int):guarded s ((c,b)::l) k=if b=true then (s,[c]) else guarded s l k:=by
 unfold guarded
 rw[List.find?_cons]
 cases b <;> rfl
theorem Y9 (s:State) (k:Unit→State×List Int):guarded s [] k=k ():=rfl
theorem inr_t {n lo hi:Int} (h1:lo≤n) (h2:n≤hi):Vbwsaf.inr n lo hi=true:=by unfold Vbwsaf.inr;simp[h1,h2]
section
variable (v:Window Cells) (seed:Int) (late:List (List Nat))
abbrev stt:State:=⟨some v,seed,late⟩
theorem Z09:Vbwsaf.noneOpen (stt v seed late)=(-2,false):=rfl
theorem Zee {v:Window Cells} {n:Nat} (h:Vbwsaf.stayOf v n=none):((Vbwsaf.stayOf (Vbwsaf.join v n) n).map fun x=>x.stay).getD 0=(v.stays.filter fun s=>s.player==n).length+1:=by
 have h:v.stays.find? (fun s=>s.player==n&&s.last.isNone)=none:=h
 unfold Vbwsaf.stayOf Vbwsaf.join
 simp only
 rw[List.find?_append,h]
 simp
theorem Zec {n:Nat} (hn:n≤3):Vbwsaf.step (stt v seed late) (.join (n:Int))=if (Vbwsaf.stayOf v n).isSome=true then (stt v seed late,[-3]) else if 40≤v.stays.length then (stt v seed late,[-7]) else (stt (Vbwsaf.join v n) seed late,[0,(((v.stays.filter fun s=>s.player==n).length+1:Nat):Int)]):=by
 unfold Vbwsaf.step
 simp only[Z09,Zi,Y9,Vbwsaf.isPlayer,inr_t (Int.natCast_nonneg n) (show (n:Int)≤3 by omega),Int.toNat_natCast]
 show (if (!true)=true then _ else if false=true then _ else if (Vbwsaf.stayOf v n).isSome=true then _ else if decide (40≤v.stays.length)=true then _ else _)=_
 rw[if_neg (by decide),if_neg (by decide)]
 by_cases h1:(Vbwsaf.stayOf v n).isSome=true
 ·rw[if_pos h1,if_pos h1]
 ·rw[if_neg h1,if_neg h1]
  by_cases h2:40≤v.stays.length
  ·rw[if_pos (decide_eq_true h2),if_pos h2]
  ·rw[if_neg (fun z=>h2 (of_decide_eq_true z)),if_neg h2]
   have e:Vbwsaf.stayOf v n=none:=by simpa using h1
   have:=Zee e
   show (_,[0,((((Vbwsaf.stayOf (Vbwsaf.join v n) n).map fun x=>x.stay).getD 0:Nat):Int)])=_
   rw[this]
   rfl
theorem Zcs {n:Nat} (hn:n≤3):Vbwsaf.step (stt v seed late) (.leave (n:Int))=if (Vbwsaf.stayOf v n).isNone=true then (stt v seed late,[-3]) else (stt (Vbwsaf.leave v n) seed late,[0]):=by
 unfold Vbwsaf.step
 simp only[Z09,Zi,Y9,Vbwsaf.isPlayer,inr_t (Int.natCast_nonneg n) (show (n:Int)≤3 by omega),Int.toNat_natCast]
 show (if (!true)=true then _ else if false=true then _ else if (Vbwsaf.stayOf v n).isNone=true then _ else _)=_
 rw[if_neg (by decide),if_neg (by decide)]
 rfl
theorem Zct {p k n t:Nat} {l:List Int} (hp:p≤3) (hk:1≤k∧k≤40) (hn:1≤n∧n≤100000) (ht:1≤t∧t≤1000) (hl:l.length≤4) (ha:l.all (fun z=>Vbwsaf.inr z (-1000000) 1000000)=true) :
  Vbwsaf.step (stt v seed late) (.input (p:Int) (k:Int) (n:Int) (t:Int) l)=if 100≤v.all.length∨100≤late.length then (stt v seed late,[-7]) else
   (stt (Vbwsaf.arrive Vbwsaf.cells v ⟨p,k,n,t,l⟩).1 seed (late' late ⟨p,k,n,t,l⟩ (Vbwsaf.arrive Vbwsaf.cells v ⟨p,k,n,t,l⟩).2.1),[0,((Vbwsaf.arrive Vbwsaf.cells v ⟨p,k,n,t,l⟩).2.1:Int),((Vbwsaf.arrive Vbwsaf.cells v ⟨p,k,n,t,l⟩).2.2:Int)]):=by
 unfold Vbwsaf.step
 simp only[Z09,Zi,Y9,Vbwsaf.isPlayer,inr_t (Int.natCast_nonneg p) (show (p:Int)≤3 by omega),inr_t (show (1:Int)≤(k:Int) by omega) (show (k:Int)≤40 by omega),inr_t (show (1:Int)≤(n:Int) by omega) (show (n:Int)≤100000 by omega),inr_t (show (1:Int)≤(t:Int) by omega) (show (t:Int)≤1000 by omega),Int.toNat_natCast,ha,decide_eq_true hl,Bool.true_and,Bool.not_true]
 rw[if_neg (by decide),if_neg (by decide)]
 show (if (decide (100≤v.all.length)||decide (100≤late.length))=true then _ else _)=_
 by_cases h:100≤v.all.length∨100≤late.length
 ·rw[if_pos h,if_pos (by simpa using h)]
 ·rw[if_neg h,if_neg (by simpa using h)]
  rfl
theorem Ze9 {n:Nat} (hn:1≤n∧n≤50):Vbwsaf.step (stt v seed late) (.tick (n:Int))=if 400<v.now+n then (stt v seed late,[-7]) else (stt (Vbwsaf.ticks Vbwsaf.cells n v) seed late,[0,((Vbwsaf.ticks Vbwsaf.cells n v).now:Int),((Vbwsaf.ticks Vbwsaf.cells n v).settled:Int)]):=by
 unfold Vbwsaf.step
 simp only[Z09,Zi,Y9,inr_t (show (1:Int)≤(n:Int) by omega) (show (n:Int)≤50 by omega),Int.toNat_natCast,Bool.not_true]
 rw[if_neg (by decide),if_neg (by decide)]
 show (if decide (400<v.now+n)=true then _ else _)=_
 by_cases h:400<v.now+n
 ·rw[if_pos h,if_pos (decide_eq_true h)]
 ·rw[if_neg h,if_neg (fun z=>h (of_decide_eq_true z))]
  rfl
theorem Zeb {n:Nat} (hn:1≤n∧n≤50):Vbwsaf.step (stt v seed late) (.lock (n:Int))=if 400<v.now+n then (stt v seed late,[-7]) else (stt (Vbwsaf.locked Vbwsaf.cells n v) seed late,[0,((Vbwsaf.locked Vbwsaf.cells n v).now:Int),((Vbwsaf.locked Vbwsaf.cells n v).settled:Int)]):=by
 unfold Vbwsaf.step
 simp only[Z09,Zi,Y9,inr_t (show (1:Int)≤(n:Int) by omega) (show (n:Int)≤50 by omega),Int.toNat_natCast,Bool.not_true]
 rw[if_neg (by decide),if_neg (by decide)]
 show (if decide (400<v.now+n)=true then _ else _)=_
 by_cases h:400<v.now+n
 ·rw[if_pos h,if_pos (decide_eq_true h)]
 ·rw[if_neg h,if_neg (fun z=>h (of_decide_eq_true z))]
  rfl
theorem Za4 {n:Nat} (hn:1≤n∧n≤16):Vbwsaf.step (stt v seed late) (.resize (n:Int))=(stt (Vbwsaf.resized v n) seed late,[0,((Vbwsaf.resized v n).settled:Int)]):=by
 unfold Vbwsaf.step
 simp only[Z09,Zi,Y9,inr_t (show (1:Int)≤(n:Int) by omega) (show (n:Int)≤16 by omega),Int.toNat_natCast,Bool.not_true]
 rw[if_neg (by decide),if_neg (by decide)]
 rfl
theorem Zcm {t:Nat} (ht:t≤400):Vbwsaf.step (stt v seed late) (.world (t:Int))=if v.now<t∨(Vbwsaf.snapFor v t).isNone=true then (stt v seed late,[-4]) else (stt v seed late,0::(Vbwsaf.worldAt Vbwsaf.cells v t).getD []):=by
 unfold Vbwsaf.step
 simp only[Z09,Zi,Y9,inr_t (Int.natCast_nonneg t) (show (t:Int)≤400 by omega),Int.toNat_natCast,Bool.not_true,Vbwsaf.tooOld]
 rw[if_neg (by decide),if_neg (by decide)]
 show (if (decide ((v.now:Int)<(t:Int))||(Vbwsaf.snapFor v t).isNone)=true then _ else _)=_
 by_cases h:v.now<t∨(Vbwsaf.snapFor v t).isNone=true
 ·rw[if_pos h,if_pos (by
   rw[Bool.or_eq_true]
   rcases h with h | h
   ·exact .inl (decide_eq_true (by omega))
   ·exact .inr h)]
 ·rw[if_neg h,if_neg (fun z=>h (by
   rw[Bool.or_eq_true] at z
   rcases z with z | z
   ·exact .inl (by have:=of_decide_eq_true z;omega)
   ·exact .inr z))]
  rfl
theorem Za5 {t:Nat} (ht:1≤t∧t≤1000):Vbwsaf.step (stt v seed late) (.counts (t:Int))=(stt v seed late,0::(Vbwsaf.countsFor v.rules.most v.all t).flatMap fun x=>Vbwsaf.deedNums ⟨x,false⟩):=by
 unfold Vbwsaf.step
 simp only[Z09,Zi,Y9,inr_t (show (1:Int)≤(t:Int) by omega) (show (t:Int)≤1000 by omega),Int.toNat_natCast,Bool.not_true]
 rw[if_neg (by decide),if_neg (by decide)]
 rfl
theorem Zcu {t:Nat} (ht:1≤t∧t≤1000):Vbwsaf.step (stt v seed late) (.deeds (t:Int))=(stt v seed late,0::(Vbwsaf.deedsIn v t).flatMap Vbwsaf.deedNums):=by
 unfold Vbwsaf.step
 simp only[Z09,Zi,Y9,inr_t (show (1:Int)≤(t:Int) by omega) (show (t:Int)≤1000 by omega),Int.toNat_natCast,Bool.not_true]
 rw[if_neg (by decide),if_neg (by decide)]
 rfl
theorem Zed {p k n:Nat} (hp:p≤3) (hk:1≤k∧k≤40) (hn:1≤n∧n≤100000):Vbwsaf.step (stt v seed late) (.fate (p:Int) (k:Int) (n:Int))=(stt v seed late,0::Vbwsaf.fateOf (stt v seed late) p k n):=by
 unfold Vbwsaf.step
 simp only[Z09,Zi,Y9,Vbwsaf.isPlayer,inr_t (Int.natCast_nonneg p) (show (p:Int)≤3 by omega),inr_t (show (1:Int)≤(k:Int) by omega) (show (k:Int)≤40 by omega),inr_t (show (1:Int)≤(n:Int) by omega) (show (n:Int)≤100000 by omega),Int.toNat_natCast,Bool.true_and,Bool.not_true]
 rw[if_neg (by decide),if_neg (by decide)]
theorem Zco:Vbwsaf.step (stt v seed late) .snaps=(stt v seed late,0::v.snaps.map fun x=>(x.1:Int)):=rfl
theorem Zgg:Vbwsaf.step (stt v seed late) .now=(stt v seed late,[0,(v.now:Int),(v.settled:Int),(v.all.length:Int),(late.length:Int)]++v.head):=rfl
theorem Zcn:Vbwsaf.step (stt v seed late) .stays=(stt v seed late,0::v.stays.flatMap fun x=>[(x.player:Int),(x.stay:Int),(x.after:Int),match x.last with
   | some n=>(n:Int)
   | none=>-1]):=rfl
theorem Zcq:Vbwsaf.step (stt v seed late) .ready=(stt v seed late,[0,if Vbwsaf.ready v=true then 1 else 0]):=rfl
theorem Zcr {t:Nat} (ht:t≤400):Vbwsaf.step (stt v seed late) (.plain (t:Int))=if v.now<t then (stt v seed late,[-4]) else (stt v seed late,0::Vbwsaf.plain Vbwsaf.cells v (Vbwsaf.first seed) t):=by
 unfold Vbwsaf.step
 simp only[Z09,Zi,Y9,inr_t (Int.natCast_nonneg t) (show (t:Int)≤400 by omega),Int.toNat_natCast,Bool.not_true]
 rw[if_neg (by decide),if_neg (by decide)]
 show (if decide ((v.now:Int)<(t:Int))=true then _ else _)=_
 by_cases h:v.now<t
 ·rw[if_pos h,if_pos (decide_eq_true (by omega))]
 ·rw[if_neg h,if_neg (fun z=>h (by have:=of_decide_eq_true z;omega))]
  rfl
end
end Pr
end
section
namespace Pr
open PySem PySem.Spec PyProof.Rows L2
open Vbwsaf (Input Deed Stay Window Cells)
section
variable {P:Program} {w:World} {K:PySem.W.Frag} {mg:Str→Option Value} {base:Heap}
def After (T:TX K mg) (H:Hp) (p:Addr) (a:Ad) (sas:List Addr) (v:Window Cells) (late:List (List Nat)) (seed:Int) (c:Vbwsaf.Call) (Q:VK):Prop:=
 ∀ (H':Hp) (a':Ad) (sas':List Addr) (v':Window Cells) (lt:List (List Nat)) (ans:List Int) (l:Addr),Vbwsaf.step (stt v seed late) c=(stt v' seed lt,ans)→Se T H' p a' sas' v' lt seed→W1 v'→lt.length≤100→Fr H (mset p a sas) H' (mset p a' sas') →
  LI (res H' (mset p a' sas')) l ans→ans.length≤1000→Q (.ref l) H'
theorem After.fin {T:TX K mg} {H:Hp} {p:Addr} {a:Ad} {sas:List Addr} {v:Window Cells} {late:List (List Nat)} {seed:Int} {c:Vbwsaf.Call} {Q:VK} (h:After T H p a sas v late seed c Q) {H1:Hp} {a1:Ad} {sas1:List Addr} {v1:Window Cells} {lt1:List (List Nat)} {ans:List Int}
  (e:Vbwsaf.step (stt v seed late) c=(stt v1 seed lt1,ans)) (hS:Se T H1 p a1 sas1 v1 lt1 seed) (hW:W1 v1) (hl:lt1.length≤100) (f:Fr H (mset p a sas) H1 (mset p a1 sas1)) (ha:ans.length≤1000) {l:Addr} (hn:H1 l=none):Q (.ref l) (upd H1 l (.lst (ans.map V.int))):=
 h _ a1 sas1 v1 lt1 ans l e (SeAt.same hS (Same.new hn)) hW hl (f.trans (Fr.of (Same.new hn))) (Y3 Z2 (SeAt.new hS hn)) ha
def Z5t (T:TX K mg):Sp:=fun vs H Q _=>∃ (p:Addr) (a:Ad) (sas:List Addr) (v:Window Cells) (late:List (List Nat)) (seed:Int) (r:Addr) (n:Nat),vs=[.ref p,.ref r]∧Se T H p a sas v late seed∧W1 v∧late.length≤100∧LI H r [(n:Int)]∧n≤3∧After T H p a sas v late seed (.join (n:Int)) Q
theorem W1.join {v:Window Cells} (h:W1 v) {n:Nat} (hn:Vbwsaf.stayOf v n=none) (hl:v.stays.length<40):W1 (Vbwsaf.join v n):=by
 refine ⟨{ h.w0 with sl:=?_ },?_,h.nw,h.ws,?_⟩
 ·show (v.stays++[_]).length≤40
  rw[List.length_append,List.length_singleton];omega
 ·obtain ⟨f,f1,f2,f3,e⟩:=h.sn.f
  exact ⟨h.sn.ev,h.sn.sn,f,f1,f2,f3,e⟩
 ·show List.Pairwise _ (v.stays++[_])
  rw[List.pairwise_append]
  refine ⟨h.op,by simp,fun s hs s' hs'=>?_⟩
  have e:s'=⟨n,(v.stays.filter fun s=>s.player==n).length+1,v.now,none⟩:=by simpa using hs'
  rw[e]
  rintro ⟨q1,q2,_⟩
  have hn:v.stays.find? (fun s=>s.player==n&&s.last.isNone)=none:=hn
  rw[List.find?_eq_none] at hn
  exact hn s hs (by rw[q2];simp;exact q1)
theorem Z63 (T:TX K mg):FnOk P w K mg base CX0 4 T.join_player.f T.join_player.d ["session", "numbers"] (Z5t T):=by
 refine T.join_player.F.ok Z5x (fun vs H Q E h=>?_) (fun cdv A outer s H vs Q E hr h=>?_)
 ·obtain ⟨p,a,sas,v,late,seed,r,n,rfl,_⟩:=h
  rfl
 ·obtain ⟨p,a,sas,v,late,seed,r,n,rfl,hS,hW,hll,hr1,hn,k⟩:=h
  obtain ⟨t_MOST_STAYS,Z0f⟩:=T.Z0f
  obtain ⟨t_TOO_MANY,Yl⟩:=T.Yl
  obtain ⟨t_WRONG_PRESENCE,Yk⟩:=T.Yk
  refine ⟨_,(Z4 (ps_if (Uu (Z89 (Zf (Xr T) (hr.mono (by decide)) rfl T.present_stay.m T.present_stay.F.kp T.present_stay.b .nil pass0 (Z0 (Za (pv 0) rfl) (Z0 (pe_ix Zj (pv 1) Z9 (fun _ _=>rfl)) Z3))))) (Z5 (Zc (Zv (Z0 (Zd (v:=.int (-3)) rfl Yk ⟨t_WRONG_PRESENCE,rfl⟩) Z3)))) Zp)
   (Z4 (ps_if (Zr op_ge (Zu Y2 rfl T.b_len Jo (Z0 (Za (pv 0) rfl) Z3)) (Zd (v:=.int 40) rfl Z0f ⟨t_MOST_STAYS,rfl⟩) (Y8 _)) (Z5 (Zc (Zv (Z0 (Zd (v:=.int (-7)) rfl Yl ⟨t_TOO_MANY,rfl⟩) Z3)))) Zp)
   (Z5 (Zc (Zv (Z0 Z9 (Z0 (Yf (pv 0) T.Z1 T.Ym.M (Z08 T) (hr.mono (by decide)) T.Ym.b .nil pass0 (Z0 (pe_ix Zj (pv 1) Z9 (fun _ _=>rfl)) Z3)) Z3))))))),?_⟩
  obtain ⟨dx,ho⟩:=hS.ob
  have e0:=Zec v seed late hn
  refine ⟨_,rfl,p,_,dx,_,_,rfl,ho,T.Z1,T.Zt,rfl,_,rfl,r,_,_,_,rfl,rfl,SqL.of hr1,Zl (j:=0) rfl,a.ls,sas,v.stays,n,rfl,hS.st,fun i b s hb hs hf _ _ _=>?_,fun hf=>?_⟩
  ·have hf:Vbwsaf.stayOf v n=some s:=hf
   rw[hf,if_pos (show (some s).isSome=true from rfl)] at e0
   refine ⟨_,rfl,iteT ?_⟩
   refine ⟨by show 1≤sizeLine;decide,fun l hl=>?_⟩
   exact k.fin e0 hS hW hll (Same.refl _) (by show 1≤1000;decide) hl
  ·have hf:Vbwsaf.stayOf v n=none:=hf
   rw[hf,if_neg (by decide)] at e0
   refine ⟨_,rfl,iteF ?_⟩
   have hlen:sas.length=v.stays.length:=Paired.length hS.st.at_
   refine ⟨_,rfl,p,_,dx,_,_,rfl,ho,T.Z1,T.Zt,rfl,a.ls,_,rfl,.inl (SqL.of hS.st.lst),_,_,rfl,rfl,_,rfl,?_⟩
   refine ite2 (fun z=>?_) (fun z=>?_)
   ·have z:40≤v.stays.length:=by
     have:=of_decide_eq_true z
     rw[List.length_map] at this
     omega
    rw[if_pos z] at e0
    refine ⟨by show 1≤sizeLine;decide,fun l hl=>?_⟩
    exact k.fin e0 hS hW hll (Same.refl _) (by show 1≤1000;decide) hl
   ·have z:¬ 40≤v.stays.length:=fun q=>z (decide_eq_true (by rw[List.length_map];omega))
    rw[if_neg z] at e0
    refine ⟨_,rfl,p,dx,_,rfl,ho,rfl,_,rfl,r,_,_,_,rfl,rfl,SqL.of hr1,Zl (j:=0) rfl,p,a,sas,v,late,seed,n,rfl,hS,by omega,fun H1 sas1 hS1 f1=>?_⟩
    refine ⟨by show 2≤sizeLine;decide,fun l hl=>?_⟩
    exact k.fin e0 hS1 (hW.join hf (by omega)) hll f1 (by show 2≤1000;decide) hl
def Z43 (T:TX K mg):Sp:=fun vs H Q _=>∃ (p:Addr) (a:Ad) (sas:List Addr) (v:Window Cells) (late:List (List Nat)) (seed:Int) (r:Addr) (n:Nat),vs=[.ref p,.ref r]∧Se T H p a sas v late seed∧W1 v∧late.length≤100∧LI H r [(n:Int)]∧n≤3∧After T H p a sas v late seed (.leave (n:Int)) Q
theorem W1.leave {v:Window Cells} (h:W1 v) (n:Nat):W1 (Vbwsaf.leave v n):=by
 refine ⟨{ h.w0 with sl:=?_ },?_,h.nw,h.ws,?_⟩
 ·show (v.stays.map _).length≤40
  rw[List.length_map];exact h.w0.sl
 ·obtain ⟨f,f1,f2,f3,e⟩:=h.sn.f
  exact ⟨h.sn.ev,h.sn.sn,f,f1,f2,f3,e⟩
 ·show List.Pairwise _ (v.stays.map _)
  rw[List.pairwise_map]
  refine h.op.imp fun {s s'} q=>?_
  rintro ⟨q1,q2,q3⟩
  split at q2
  ·cases q2
  ·split at q3
   ·cases q3
   ·rename_i z1 z2
    rw[if_neg z1,if_neg z2] at q1
    exact q ⟨q1,q2,q3⟩
theorem Z4u (T:TX K mg):FnOk P w K mg base CX0 3 T.leave_player.f T.leave_player.d ["session", "numbers"] (Z43 T):=by
 refine T.leave_player.F.ok Z4d (fun vs H Q E h=>?_) (fun cdv A outer s H vs Q E hr h=>?_)
 ·obtain ⟨p,a,sas,v,late,seed,r,n,rfl,_⟩:=h
  rfl
 ·obtain ⟨p,a,sas,v,late,seed,r,n,rfl,hS,hW,hll,hr1,hn,k⟩:=h
  obtain ⟨t_WRONG_PRESENCE,Yk⟩:=T.Yk
  refine ⟨_,(Z4 (ps_if (Uu (Z6u (Zf (Xr T) (hr.mono (by decide)) rfl T.present_stay.m T.present_stay.F.kp T.present_stay.b .nil pass0 (Z0 (Za (pv 0) rfl) (Z0 (pe_ix Zj (pv 1) Z9 (fun _ _=>rfl)) Z3))))) (Z5 (Zc (Zv (Z0 (Zd (v:=.int (-3)) rfl Yk ⟨t_WRONG_PRESENCE,rfl⟩) Z3)))) Zp)
   (Z4 (Zx (Yf (pv 0) T.Z1 T.X5.M (Z1m T) (hr.mono (by decide)) T.X5.b .nil pass0 (Z0 (pe_ix Zj (pv 1) Z9 (fun _ _=>rfl)) Z3)))
   (Z5 (Zc (Zv (Z0 Z9 Z3)))))),?_⟩
  obtain ⟨dx,ho⟩:=hS.ob
  have e0:=Zcs v seed late hn
  refine ⟨_,rfl,p,_,dx,_,_,rfl,ho,T.Z1,T.Zt,rfl,_,rfl,r,_,_,_,rfl,rfl,SqL.of hr1,Zl (j:=0) rfl,a.ls,sas,v.stays,n,rfl,hS.st,fun i b s hb hs hf _ _ _=>?_,fun hf=>?_⟩
  ·have hf:Vbwsaf.stayOf v n=some s:=hf
   rw[hf,if_neg (show ¬ (some s).isNone=true from Bool.false_ne_true)] at e0
   refine ⟨_,rfl,iteF ?_⟩
   refine ⟨_,rfl,p,dx,_,rfl,ho,rfl,_,rfl,r,_,_,_,rfl,rfl,SqL.of hr1,Zl (j:=0) rfl,p,a,sas,v,late,seed,n,rfl,hS,hW,by rw[hf];rfl,fun H1 hS1 f1=>?_⟩
   refine ⟨by show 1≤sizeLine;decide,fun l hl=>?_⟩
   exact k.fin e0 hS1 (hW.leave n) hll f1 (by show 1≤1000;decide) hl
  ·have hf:Vbwsaf.stayOf v n=none:=hf
   rw[hf,if_pos (show (none:Option Stay).isNone=true from rfl)] at e0
   refine ⟨_,rfl,iteT ?_⟩
   refine ⟨by show 1≤sizeLine;decide,fun l hl=>?_⟩
   exact k.fin e0 hS hW hll (Same.refl _) (by show 1≤1000;decide) hl
def Za8 (T:TX K mg):Sp:=fun vs H Q _=>∃ (p:Addr) (a:Ad) (sas:List Addr) (v:Window Cells) (late:List (List Nat)) (seed:Int) (r:Addr) (x:Input),vs=[.ref p,.ref r]∧Se T H p a sas v late seed∧W1 v∧late.length≤100∧LI H r ([(x.player:Int),(x.stay:Int),(x.number:Int),(x.tick:Int)]++x.data) ∧
 x.player≤3∧(1≤x.stay∧x.stay≤40)∧(1≤x.number∧x.number≤100000)∧(1≤x.tick∧x.tick≤1000)∧x.data.length≤4∧x.data.all (fun z=>Vbwsaf.inr z (-1000000) 1000000)=true∧After T H p a sas v late seed (.input (x.player:Int) (x.stay:Int) (x.number:Int) (x.tick:Int) x.data) Q
theorem Zaq (T:TX K mg):FnOk P w K mg base CX0 11 T.take_one.f T.take_one.d ["session", "numbers"] (Za8 T):=by
 refine T.take_one.F.ok Z4c (fun vs H Q E h=>?_) (fun cdv A outer s H vs Q E hr h=>?_)
 ·obtain ⟨p,a,sas,v,late,seed,r,x,rfl,_⟩:=h
  rfl
 ·obtain ⟨p,a,sas,v,late,seed,r,x,rfl,hS,hW,hll,hr1,b1,b2,b3,b4,b5,b6,k⟩:=h
  obtain ⟨t_MOST_KEPT,Z1u⟩:=T.Z1u
  obtain ⟨t_MOST_LATE,Z1t⟩:=T.Z1t
  obtain ⟨t_TOO_MANY,Yl⟩:=T.Yl
  refine ⟨_,(Z4 (ps_if (PW.pt (pw_or (Zr op_ge (Zu Z9r rfl T.b_len Jo (Z0 (Za (pv 0) rfl) Z3)) (Zd (v:=.int 100) rfl Z1u ⟨t_MOST_KEPT,rfl⟩) (Y8 _)) (Zeq (Zr op_ge (Zu Z9q rfl T.b_len Jo (Z0 (Za (pv 0) rfl) Z3)) (Zd (v:=.int 100) rfl Z1t ⟨t_MOST_LATE,rfl⟩) (Y8 _))))) (Z5 (Zc (Zv (Z0 (Zd (v:=.int (-7)) rfl Yl ⟨t_TOO_MANY,rfl⟩) Z3)))) Zp)
   (Z4 (Zy (i:=2) Z4c.nd rfl (Or.inl rfl) (Z4s (Z0 (pe_ix Zj (pv 1) Z9 (fun _ _=>rfl)) (Z0 (pe_ix Zj (pv 1) Z9 (fun _ _=>rfl)) (Z0 (pe_ix Zj (pv 1) Z9 (fun _ _=>rfl)) (Z0 (pe_ix Zj (pv 1) Z9 (fun _ _=>rfl)) (Z0 (Z06 Z2h rfl T.b_tuple Zcf (Z0 (Z0s Z7u (pv 1) (Z05 Z9) Z85) Z3)) Z3)))))))
   (Z5 (Zc (pe_op Z28 (Zv (Z0 Z9 Z3)) (Yf (pv 0) T.Z1 T.Jd.M (Z4z T) (hr.mono (by decide)) T.Jd.b .nil pass0 (Z0 (pv 2) Z3))))))),?_⟩
  obtain ⟨dx,ho⟩:=hS.ob
  have e0:=Zct v seed late b1 b2 b3 b4 b5 b6
  obtain ⟨ks,hk1,hk2⟩:=hS.kp
  have hkl:(ks.map fun x=>(inK x,V.bl true)).length=v.all.length:=by rw[List.length_map];exact hk2.length_eq.symm
  have hltl:(ltK late).length=late.length:=by unfold ltK;rw[List.length_map,List.length_reverse]
  refine ⟨_,rfl,p,_,dx,_,_,rfl,ho,T.Z1,T.X2,rfl,a.dk,_,rfl,hk1,_,_,rfl,rfl,_,rfl,?_⟩
  have full:(100≤v.all.length∨100≤late.length)→∀ l,H l=none→Q (.ref l) (upd H l (.lst [V.int (-7)])):=by
   intro z l hl
   rw[if_pos z] at e0
   exact k.fin e0 hS hW hll (Same.refl _) (by show 1≤1000;decide) hl
  refine ite2 (fun z=>?_) (fun z=>?_)
  ·have z:100≤v.all.length:=by have:=of_decide_eq_true z;rw[hkl] at this;omega
   exact iteT ⟨by show 1≤sizeLine;decide,full (.inl z)⟩
  ·have z1:¬ 100≤v.all.length:=fun q=>z (decide_eq_true (by rw[hkl];omega))
   refine ⟨_,rfl,p,_,dx,_,_,rfl,ho,T.Z1,T.Xu,rfl,a.dl,_,rfl,hS.lt,_,_,rfl,rfl,_,rfl,?_⟩
   refine ite2 (fun z=>?_) (fun z=>?_)
   ·have z:100≤late.length:=by have:=of_decide_eq_true z;rw[hltl] at this;omega
    exact ⟨by show 1≤sizeLine;decide,full (.inr z)⟩
   ·have z2:¬ 100≤late.length:=fun q=>z (decide_eq_true (by rw[hltl];omega))
    rw[if_neg (fun q=>q.elim z1 z2)] at e0
    have sq:=SqL.of (K:=K) hr1
    refine ⟨_,rfl,r,_,_,_,rfl,rfl,sq,Zl (j:=0) rfl,_,rfl,r,_,_,_,rfl,rfl,sq,Zl (j:=1) rfl,_,rfl,r,_,_,_,rfl,rfl,sq,Zl (j:=2) rfl,_,rfl,r,_,_,_,rfl,rfl,sq,Zl (j:=3) rfl,?_⟩
    refine ⟨_,rfl,_,rfl,r,_,rfl,sq,fun l1 hl1=>?_⟩
    rw[show cutV (([(x.player:Int),(x.stay:Int),(x.number:Int),(x.tick:Int)]++x.data).map V.int) (some 4) none=x.data.map V.int from Zcc ([(x.player:Int),(x.stay:Int),(x.number:Int),(x.tick:Int)]++x.data) 4 (by rw[List.length_append];show 4≤4+_;omega)]
    have s1:=Same.new (o:=.lst (x.data.map V.int)) hl1
    refine ⟨l1,_,rfl,.inl ⟨SqL.of Z2,fun d hd=>?_⟩⟩
    have s2:=s1.trans (Same.new (o:=.tup (x.data.map V.int)) hd)
    refine ⟨by show 5≤sizeLine;decide,fun q hq=>?_⟩
    have s3:=s2.trans (Same.new (o:=.tup [V.int (x.player:Int),V.int (x.stay:Int),V.int (x.number:Int),V.int (x.tick:Int),V.ref d]) hq)
    refine ⟨by show 1≤sizeLine;decide,fun z0 hz0=>?_⟩
    have s4:=s3.trans (Same.new (o:=.lst [V.int 0]) hz0)
    have hqd:q≠d:=fun e=>by rw[e,Z2] at hq;cases hq
    have hin:InAt (upd (upd (upd (upd H l1 (.lst (x.data.map V.int))) d (.tup (x.data.map V.int))) q (.tup [V.int (x.player:Int),V.int (x.stay:Int),V.int (x.number:Int),V.int (x.tick:Int),V.ref d])) z0 (.lst [V.int 0])) q x:=
     ⟨d,(Same.new hz0) _ _ Z2,(Same.new hz0) _ _ ((Same.new hq) _ _ Z2)⟩
    have hS4:=hS.same s4
    obtain ⟨dx4,ho4⟩:=hS4.ob
    refine ⟨_,rfl,p,dx4,_,rfl,ho4,rfl,_,rfl,p,a,sas,v,late,seed,q,x,rfl,hS4,hW,hin,by omega,by omega,⟨b1,b4.1,b5⟩,fun v' r' n' H5 a5 l5 ea hS5 hW5 f5 hl5=>?_⟩
    have hz5:=(Uc (f5 _ _ (Y3 (Z2 (H:=upd (upd (upd H l1 (.lst (x.data.map V.int))) d (.tup (x.data.map V.int))) q (.tup [V.int (x.player:Int),V.int (x.stay:Int),V.int (x.number:Int),V.int (x.tick:Int),V.ref d])) (a:=z0) (o:=.lst [V.int 0])) (SeAt.new (hS.same s3) hz0)))).1
    refine ⟨z0,l5,_,_,rfl,rfl,hz5,(Uc hl5).1,(by show 1+2≤sizeLine;decide),fun l hl=>?_⟩
    rw[ea] at e0
    refine k.fin e0 hS5 hW5 ?_ ((Fr.of s4).trans f5) (by show 3≤1000;decide) hl
    show (late' late x r').length≤100
    unfold late'
    split
    ·rw[List.length_cons];omega
    ·exact hll
end
end Pr
end
section
namespace Pr
open PySem PySem.Spec PyProof.Rows L2
open Vbwsaf (Input Deed Stay Window Cells)
theorem Z0o:∀ (n:Nat) (v:Window Cells),Vbwsaf.ticks Vbwsaf.cells (n+1) v=Vbwsaf.tick Vbwsaf.cells (Vbwsaf.ticks Vbwsaf.cells n v)
 | 0,v=>rfl
 | n+1,v=>Z0o n (Vbwsaf.tick Vbwsaf.cells v)
section
variable {P:Program} {w:World} {K:PySem.W.Frag} {mg:Str→Option Value} {base:Heap}
def Z7q (T:TX K mg):Sp:=fun vs H Q _=>∃ (p:Addr) (a:Ad) (sas:List Addr) (v:Window Cells) (late:List (List Nat)) (seed:Int) (r:Addr) (n:Nat),vs=[.ref p,.ref r]∧Se T H p a sas v late seed∧W1 v∧late.length≤100∧LI H r [(n:Int)]∧(1≤n∧n≤50)∧After T H p a sas v late seed (.tick (n:Int)) Q
theorem Z8g (T:TX K mg):FnOk P w K mg base CX0 9 T.make_ticks.f T.make_ticks.d ["session", "numbers"] (Z7q T):=by
 refine T.make_ticks.F.ok Z1z (fun vs H Q E h=>?_) (fun cdv A outer s H vs Q E hr h=>?_)
 ·obtain ⟨p,a,sas,v,late,seed,r,n,rfl,_⟩:=h
  rfl
 ·obtain ⟨p,a,sas,v,late,seed,r,n,rfl,hS,hW,hll,hr1,hn,k⟩:=h
  obtain ⟨t_LAST_TICK,J3⟩:=T.J3
  obtain ⟨t_TOO_MANY,Yl⟩:=T.Yl
  refine ⟨_,(Z4 (ps_if (Zr op_gt (pe_op Yx (Za (pv 0) rfl) (pe_ix Zj (pv 1) Z9 (fun _ _=>rfl))) (Zd (v:=.int 400) rfl J3 ⟨t_LAST_TICK,rfl⟩) (Y8 _)) (Z5 (Zc (Zv (Z0 (Zd (v:=.int (-7)) rfl Yl ⟨t_TOO_MANY,rfl⟩) Z3)))) Zp)
   (Z4 (Jy PassesOwn.never rfl (J8 rfl T.b_range (Z0 (pe_ix Zj (pv 1) Z9 (fun _ _=>rfl)) Z3)) (Y4 (i:=2) Z1z.nd rfl (Or.inl rfl)) (Z5 (Zx (Jq (pv 0) T.Z1 T.Y7.M (Jm T) (hr.mono (by decide)) T.Y7.b .nil pass0))))
   (Z5 (Zc (Zv (Z0 Z9 (Z0 (Za (pv 0) rfl) (Z0 (Za (pv 0) rfl) Z3)))))))),?_⟩
  obtain ⟨dx,ho⟩:=hS.ob
  have e0:=Ze9 v seed late hn
  refine ⟨_,rfl,p,_,dx,_,_,rfl,ho,T.Z1,T.Zh,rfl,_,rfl,r,_,_,_,rfl,rfl,SqL.of hr1,Zl (j:=0) rfl,_,_,rfl,rfl,_,_,rfl,rfl,_,rfl,?_⟩
  refine ite2 (fun z=>?_) (fun z=>?_)
  ·have z:400<v.now+n:=by have:=of_decide_eq_true z;omega
   rw[if_pos z] at e0
   refine ⟨by show 1≤sizeLine;decide,fun l hl=>?_⟩
   exact k.fin e0 hS hW hll (Same.refl _) (by show 1≤1000;decide) hl
  ·have z:¬ 400<v.now+n:=fun q=>z (decide_eq_true (by omega))
   rw[if_neg z] at e0
   refine ⟨_,rfl,r,_,_,_,rfl,rfl,SqL.of hr1,Zl (j:=0) rfl,_,rfl,(by omega),(by omega),?_⟩
   rw[Int.toNat_natCast]
   refine Jb (lo:=0) (n:=n) (fun i σ H'=>∃ (u:Option V) (a':Ad),σ=[some (.ref p),some (.ref r),u]∧Se T H' p a' sas (Vbwsaf.ticks Vbwsaf.cells i v) late seed∧W1 (Vbwsaf.ticks Vbwsaf.cells i v)∧(Vbwsaf.ticks Vbwsaf.cells i v).now=v.now+i∧Fr H (mset p a sas) H' (mset p a' sas))
    ⟨none,a,rfl,hS,hW,rfl,Same.refl _⟩ ?_ ?_
   ·rintro i σ H1 hi ⟨u,a',rfl,hS1,hW1,hn1,f1⟩
    obtain ⟨dx1,ho1⟩:=hS1.ob
    refine ⟨_,rfl,p,dx1,_,rfl,ho1,rfl,p,a',sas,_,late,seed,rfl,hS1,hW1,by omega,fun H2 a2 hS2 f2=>?_⟩
    rw[← Z0o] at hS2
    refine ⟨_,a2,rfl,hS2,?_,?_,f1.trans f2⟩
    ·rw[Z0o];exact hW1.tick (by omega)
    ·rw[Z0o,Zbc hW1.sn];omega
   ·rintro σ H1 ⟨u,a',rfl,hS1,hW1,hn1,f1⟩
    obtain ⟨dx1,ho1⟩:=hS1.ob
    refine ⟨_,rfl,p,_,dx1,_,_,rfl,ho1,T.Z1,T.Zh,rfl,_,rfl,p,_,dx1,_,_,rfl,ho1,T.Z1,T.Zn,rfl,by show 3≤sizeLine;decide,fun l hl=>?_⟩
    exact k.fin e0 hS1 hW1 hll f1 (by show 3≤1000;decide) hl
def Z7r (T:TX K mg):Sp:=fun vs H Q _=>∃ (p:Addr) (a:Ad) (sas:List Addr) (v:Window Cells) (late:List (List Nat)) (seed:Int) (r:Addr) (n:Nat),vs=[.ref p,.ref r]∧Se T H p a sas v late seed∧W1 v∧late.length≤100∧LI H r [(n:Int)]∧(1≤n∧n≤50)∧After T H p a sas v late seed (.lock (n:Int)) Q
theorem Z8h (T:TX K mg):FnOk P w K mg base CX0 10 T.lock_ticks.f T.lock_ticks.d ["session", "numbers"] (Z7r T):=by
 refine T.lock_ticks.F.ok Z81 (fun vs H Q E h=>?_) (fun cdv A outer s H vs Q E hr h=>?_)
 ·obtain ⟨p,a,sas,v,late,seed,r,n,rfl,_⟩:=h
  rfl
 ·obtain ⟨p,a,sas,v,late,seed,r,n,rfl,hS,hW,hll,hr1,hn,k⟩:=h
  obtain ⟨t_LAST_TICK,J3⟩:=T.J3
  obtain ⟨t_TOO_MANY,Yl⟩:=T.Yl
  refine ⟨_,(Z4 (ps_if (Zr op_gt (pe_op Yx (Za (pv 0) rfl) (pe_ix Zj (pv 1) Z9 (fun _ _=>rfl))) (Zd (v:=.int 400) rfl J3 ⟨t_LAST_TICK,rfl⟩) (Y8 _)) (Z5 (Zc (Zv (Z0 (Zd (v:=.int (-7)) rfl Yl ⟨t_TOO_MANY,rfl⟩) Z3)))) Zp)
   (Z4 (Zx (Yf (pv 0) T.Z1 T.Zw.M (U0 T) (hr.mono (by decide)) T.Zw.b .nil pass0 (Z0 (pe_ix Zj (pv 1) Z9 (fun _ _=>rfl)) Z3)))
   (Z5 (Zc (Zv (Z0 Z9 (Z0 (Za (pv 0) rfl) (Z0 (Za (pv 0) rfl) Z3)))))))),?_⟩
  obtain ⟨dx,ho⟩:=hS.ob
  have e0:=Zeb v seed late hn
  refine ⟨_,rfl,p,_,dx,_,_,rfl,ho,T.Z1,T.Zh,rfl,_,rfl,r,_,_,_,rfl,rfl,SqL.of hr1,Zl (j:=0) rfl,_,_,rfl,rfl,_,_,rfl,rfl,_,rfl,?_⟩
  refine ite2 (fun z=>?_) (fun z=>?_)
  ·have z:400<v.now+n:=by have:=of_decide_eq_true z;omega
   rw[if_pos z] at e0
   refine ⟨by show 1≤sizeLine;decide,fun l hl=>?_⟩
   exact k.fin e0 hS hW hll (Same.refl _) (by show 1≤1000;decide) hl
  ·have z:¬ 400<v.now+n:=fun q=>z (decide_eq_true (by omega))
   rw[if_neg z] at e0
   refine ⟨_,rfl,p,dx,_,rfl,ho,rfl,_,rfl,r,_,_,_,rfl,rfl,SqL.of hr1,Zl (j:=0) rfl,p,a,sas,v,late,seed,n,rfl,hS,hW,by omega,fun H1 a1 hS1 hW1 f1=>?_⟩
   obtain ⟨dx1,ho1⟩:=hS1.ob
   refine ⟨_,rfl,p,_,dx1,_,_,rfl,ho1,T.Z1,T.Zh,rfl,_,rfl,p,_,dx1,_,_,rfl,ho1,T.Z1,T.Zn,rfl,by show 3≤sizeLine;decide,fun l hl=>?_⟩
   exact k.fin e0 hS1 hW1 hll f1 (by show 3≤1000;decide) hl
def Z3j (T:TX K mg):Sp:=fun vs H Q _=>∃ (p:Addr) (a:Ad) (sas:List Addr) (v:Window Cells) (late:List (List Nat)) (seed:Int) (r:Addr) (n:Nat),vs=[.ref p,.ref r]∧Se T H p a sas v late seed∧W1 v∧late.length≤100∧LI H r [(n:Int)]∧(1≤n∧n≤16)∧After T H p a sas v late seed (.resize (n:Int)) Q
theorem Z3r (T:TX K mg):FnOk P w K mg base CX0 4 T.resize_window.f T.resize_window.d ["session", "numbers"] (Z3j T):=by
 refine T.resize_window.F.ok Z3n (fun vs H Q E h=>?_) (fun cdv A outer s H vs Q E hr h=>?_)
 ·obtain ⟨p,a,sas,v,late,seed,r,n,rfl,_⟩:=h
  rfl
 ·obtain ⟨p,a,sas,v,late,seed,r,n,rfl,hS,hW,hll,hr1,hn,k⟩:=h
  refine ⟨_,(Z4 (Zx (Yf (pv 0) T.Z1 T.Xj.M (Z2v T) (hr.mono (by decide)) T.Xj.b .nil pass0 (Z0 (pe_ix Zj (pv 1) Z9 (fun _ _=>rfl)) Z3)))
   (Z5 (Zc (Zv (Z0 Z9 (Z0 (Za (pv 0) rfl) Z3)))))),?_⟩
  obtain ⟨dx,ho⟩:=hS.ob
  have e0:=Za4 v seed late hn
  refine ⟨_,rfl,p,dx,_,rfl,ho,rfl,_,rfl,r,_,_,_,rfl,rfl,SqL.of hr1,Zl (j:=0) rfl,p,a,sas,v,late,seed,n,rfl,hS,hW,fun H1 a1 hS1 f1=>?_⟩
  obtain ⟨dx1,ho1⟩:=hS1.ob
  refine ⟨_,rfl,p,_,dx1,_,_,rfl,ho1,T.Z1,T.Zn,rfl,by show 2≤sizeLine;decide,fun l hl=>?_⟩
  exact k.fin e0 hS1 (hW.resized hn.1 hn.2) hll f1 (by show 2≤1000;decide) hl
def Z7l (T:TX K mg):Sp:=fun vs H Q _=>∃ (p:Addr) (a:Ad) (sas:List Addr) (v:Window Cells) (late:List (List Nat)) (seed:Int) (r:Addr) (n:Nat),vs=[.ref p,.ref r]∧Se T H p a sas v late seed∧W1 v∧late.length≤100∧LI H r [(n:Int)]∧n≤400∧After T H p a sas v late seed (.world (n:Int)) Q
theorem Z8a (T:TX K mg):FnOk P w K mg base CX0 9 T.tell_world.f T.tell_world.d ["session", "numbers"] (Z7l T):=by
 refine T.tell_world.F.ok Z7x (fun vs H Q E h=>?_) (fun cdv A outer s H vs Q E hr h=>?_)
 ·obtain ⟨p,a,sas,v,late,seed,r,n,rfl,_⟩:=h
  rfl
 ·obtain ⟨p,a,sas,v,late,seed,r,n,rfl,hS,hW,hll,hr1,hn,k⟩:=h
  obtain ⟨t_NOT_TO_BE_HAD,Yv⟩:=T.Yv
  refine ⟨_,(Z4 (ps_if (PW.pt (pw_or (Zr op_gt (pe_ix Zj (pv 1) Z9 (fun _ _=>rfl)) (Za (pv 0) rfl) (Y8 _)) (Zeq (Zr op_lt (pe_ix Zj (pv 1) Z9 (fun _ _=>rfl)) (Jq (pv 0) T.Z1 T.Y6.M (Uo T) (hr.mono (by decide)) T.Y6.b .nil pass0) (Y8 _))))) (Z5 (Zc (Zv (Z0 (Zd (v:=.int (-4)) rfl Yv ⟨t_NOT_TO_BE_HAD,rfl⟩) Z3)))) Zp)
   (Z5 (Zc (pe_op Z28 (Zv (Z0 Z9 Z3)) (Yf (pv 0) T.Z1 T.Yb.M (Wb T) (hr.mono (by decide)) T.Yb.b .nil pass0 (Z0 (pe_ix Zj (pv 1) Z9 (fun _ _=>rfl)) Z3)))))),?_⟩
  obtain ⟨dx,ho⟩:=hS.ob
  have e0:=Zcm v seed late hn
  refine ⟨_,rfl,r,_,_,_,rfl,rfl,SqL.of hr1,Zl (j:=0) rfl,_,rfl,p,_,dx,_,_,rfl,ho,T.Z1,T.Zh,rfl,_,_,rfl,rfl,_,rfl,?_⟩
  refine ite2 (fun z=>?_) (fun z=>?_)
  ·have z:v.now<n:=by have:=of_decide_eq_true z;omega
   rw[if_pos (.inl z)] at e0
   refine iteT ⟨by show 1≤sizeLine;decide,fun l hl=>?_⟩
   exact k.fin e0 hS hW hll (Same.refl _) (by show 1≤1000;decide) hl
  ·have z1:¬ v.now<n:=fun q=>z (decide_eq_true (by omega))
   obtain ⟨f,f1,f2,f3,ek⟩:=hW.sn.f
   have hpos:0<v.snaps.length:=by
    obtain ⟨w0,hw0⟩:=Z8l ek (Wr.mpr ⟨(by have:=hW.sn.sn;omega),Nat.le_refl f,f1⟩)
    exact List.length_pos_of_mem hw0
   refine ⟨_,rfl,r,_,_,_,rfl,rfl,SqL.of hr1,Zl (j:=0) rfl,_,rfl,p,dx,_,rfl,ho,rfl,p,a,sas,v,late,seed,rfl,hS,hpos,fun H1 k0 s1 hk0 hk1=>?_⟩
   refine ⟨_,_,rfl,rfl,_,rfl,?_⟩
   have hS1:=hS.same s1
   have ho1:=s1 _ _ ho
   refine ite2 (fun z=>?_) (fun z=>?_)
   ·have z:n<k0:=by have:=of_decide_eq_true z;omega
    have e1:Vbwsaf.snapFor v n=none:=by
     unfold Vbwsaf.snapFor
     rw[List.getLast?_eq_none_iff,List.filter_eq_nil_iff]
     intro s hs
     have:=hk1 s hs
     simp
     omega
    rw[if_pos (.inr (by rw[e1];rfl))] at e0
    refine ⟨by show 1≤sizeLine;decide,fun l hl=>?_⟩
    exact k.fin e0 hS1 hW hll (Fr.of s1) (by show 1≤1000;decide) hl
   ·have z:k0≤n:=by
     have:¬ (n:Int)<(k0:Int):=fun q=>z (decide_eq_true q)
     omega
    obtain ⟨w0,hw0⟩:=hk0
    cases e1:Vbwsaf.snapFor v n with
    | none=>
     have e1:(v.snaps.filter fun x=>decide (x.1≤n))=[]:=List.getLast?_eq_none_iff.mp e1
     rw[List.filter_eq_nil_iff] at e1
     exact absurd (decide_eq_true (show (k0,w0).1≤n from z)) (e1 _ hw0)
    | some kw=>
     obtain ⟨k1,w1⟩:=kw
     rw[if_neg (by rw[e1];rintro (q | q);exact z1 q;cases q)] at e0
     have ew:(Vbwsaf.worldAt Vbwsaf.cells v n).getD []=Vbwsaf.reckon Vbwsaf.cells (Vbwsaf.deedsIn v) (n-k1) k1 w1:=by
      unfold Vbwsaf.worldAt
      rw[e1]
      rfl
     rw[ew] at e0
     refine ⟨by show 1≤sizeLine;decide,fun z0 hz0=>?_⟩
     have s2:=s1.trans (Same.new (o:=.lst [V.int 0]) hz0)
     have hS2:=hS.same s2
     have ho2:=s2 _ _ ho
     have hr2:=s2 _ _ hr1
     refine ⟨_,rfl,p,dx,_,rfl,ho2,rfl,_,rfl,r,_,_,_,rfl,rfl,SqL.of hr2,Zl (j:=0) rfl,p,a,sas,v,late,seed,n,k1,w1,rfl,hS2,hW.w0,hW.sn.inc,Nat.le_trans hW.len (by decide),by omega,e1,fun H3 q3 s3 c3 h3=>?_⟩
     have l6:(Vbwsaf.reckon Vbwsaf.cells (Vbwsaf.deedsIn v) (n-k1) k1 w1).length=6:=c3.len
     refine ⟨z0,q3,_,_,rfl,rfl,s3 _ _ Z2,h3,(by rw[List.length_map,l6];show 1+6≤sizeLine;decide),fun l hl=>?_⟩
     exact k.fin e0 (hS2.same s3) hW hll (Fr.of (s2.trans s3)) (by rw[List.length_cons,l6];decide) hl
def Z7o (T:TX K mg):Sp:=fun vs H Q _=>∃ (p:Addr) (a:Ad) (sas:List Addr) (v:Window Cells) (late:List (List Nat)) (seed:Int) (r:Addr) (n:Nat),vs=[.ref p,.ref r]∧Se T H p a sas v late seed∧W1 v∧late.length≤100∧LI H r [(n:Int)]∧n≤400∧After T H p a sas v late seed (.plain (n:Int)) Q
theorem Z8d (T:TX K mg):FnOk P w K mg base CX0 9 T.tell_plain.f T.tell_plain.d ["session", "numbers"] (Z7o T):=by
 refine T.tell_plain.F.ok Z7z (fun vs H Q E h=>?_) (fun cdv A outer s H vs Q E hr h=>?_)
 ·obtain ⟨p,a,sas,v,late,seed,r,n,rfl,_⟩:=h
  rfl
 ·obtain ⟨p,a,sas,v,late,seed,r,n,rfl,hS,hW,hll,hr1,hn,k⟩:=h
  obtain ⟨t_NOT_TO_BE_HAD,Yv⟩:=T.Yv
  refine ⟨_,(Z4 (ps_if (Zr op_gt (pe_ix Zj (pv 1) Z9 (fun _ _=>rfl)) (Za (pv 0) rfl) (Y8 _)) (Z5 (Zc (Zv (Z0 (Zd (v:=.int (-4)) rfl Yv ⟨t_NOT_TO_BE_HAD,rfl⟩) Z3)))) Zp)
   (Z5 (Zc (pe_op Z28 (Zv (Z0 Z9 Z3)) (Yf (pv 0) T.Z1 T.Yd.M (Wd T) (hr.mono (by decide)) T.Yd.b .nil pass0 (Z0 (pe_ix Zj (pv 1) Z9 (fun _ _=>rfl)) Z3)))))),?_⟩
  obtain ⟨dx,ho⟩:=hS.ob
  have e0:=Zcr v seed late hn
  refine ⟨_,rfl,r,_,_,_,rfl,rfl,SqL.of hr1,Zl (j:=0) rfl,_,rfl,p,_,dx,_,_,rfl,ho,T.Z1,T.Zh,rfl,_,_,rfl,rfl,_,rfl,?_⟩
  refine ite2 (fun z=>?_) (fun z=>?_)
  ·have z:v.now<n:=by have:=of_decide_eq_true z;omega
   rw[if_pos z] at e0
   refine ⟨by show 1≤sizeLine;decide,fun l hl=>?_⟩
   exact k.fin e0 hS hW hll (Same.refl _) (by show 1≤1000;decide) hl
  ·have z1:¬ v.now<n:=fun q=>z (decide_eq_true (by omega))
   rw[if_neg z1] at e0
   refine ⟨by show 1≤sizeLine;decide,fun z0 hz0=>?_⟩
   have s2:=Same.new (o:=.lst [V.int 0]) hz0
   have hS2:=hS.same s2
   have ho2:=s2 _ _ ho
   have hr2:=s2 _ _ hr1
   refine ⟨_,rfl,p,dx,_,rfl,ho2,rfl,_,rfl,r,_,_,_,rfl,rfl,SqL.of hr2,Zl (j:=0) rfl,p,a,sas,v,late,seed,n,rfl,hS2,hW.w0,by omega,fun H3 q3 s3 c3 h3=>?_⟩
   have l6:(Vbwsaf.plain Vbwsaf.cells v (Vbwsaf.first seed) n).length=6:=c3.len
   refine ⟨z0,q3,_,_,rfl,rfl,s3 _ _ Z2,h3,(by rw[List.length_map,l6];show 1+6≤sizeLine;decide),fun l hl=>?_⟩
   exact k.fin e0 (hS2.same s3) hW hll (Fr.of (s2.trans s3)) (by rw[List.length_cons,l6];decide) hl
end
end Pr
end
section
namespace Pr
open PySem PySem.Spec PyProof.Rows L2
open Vbwsaf (Input Deed Stay Window Cells)
theorem Z3u (m:Nat):∀ (l had:List Input),(Vbwsaf.upTo m had l).Sublist l
 | [],had=>by unfold Vbwsaf.upTo;exact .slnil
 | x::r,had=>by
  unfold Vbwsaf.upTo
  split
  ·exact (Z3u m r had).cons x
  ·exact (Z3u m r (x::had)).cons₂ x
theorem Zb0 {x y:Input} (h:Vbwsaf.less x y=true):x.player≤y.player:=by
 rcases Li.lr_two (l:=[(x.stay:Int),(x.number:Int),(x.tick:Int)]++x.data) (m:=[(y.stay:Int),(y.number:Int),(y.tick:Int)]++y.data) (a:=(x.player:Int)) (b:=(y.player:Int)) (c:=0) (d:=0) h with q | q
 ·omega
 ·have:=q.1;omega
theorem Zdl {α β:Type} {l:List α} {f g:α→List β} (h:∀ x∈l,f x=g x):l.flatMap f=l.flatMap g:=by
 induction l with
 | nil=>rfl
 | cons x l ih=>rw[List.flatMap_cons,List.flatMap_cons,h x (List.mem_cons_self ..),ih fun y hy=>h y (List.mem_cons_of_mem _ hy)]
theorem Z5c:∀ (n:Nat) (l:List Input),(l.Pairwise fun x y=>x.player≤y.player)→(∀ x∈l,x.player<n)→(List.range n).flatMap (fun p=>l.filter fun x=>x.player==p)=l
 | 0,l,_,h=>by
  cases l with
  | nil=>rfl
  | cons x l=>exact absurd (h x (List.mem_cons_self ..)) (by omega)
 | n+1,l,hp,h=>by
  rw[Z0i]
  have hsplit:l.filter (fun x=>decide (x.player<n))++l.filter (fun x=>x.player==n)=l:=by
   induction l with
   | nil=>rfl
   | cons x l ih=>
    obtain ⟨h1,h2⟩:=List.pairwise_cons.mp hp
    by_cases hx:x.player<n
    ·rw[List.filter_cons_of_pos (by simpa using hx),List.filter_cons_of_neg (by simp;omega),List.cons_append,ih h2 fun y hy=>h y (List.mem_cons_of_mem _ hy)]
    ·have hxn:=h x (List.mem_cons_self ..)
     have e1:l.filter (fun x=>decide (x.player<n))=[]:=List.filter_eq_nil_iff.mpr fun y hy=>by have:=h1 y hy;simp;omega
     have e2:l.filter (fun x=>x.player==n)=l:=List.filter_eq_self.mpr fun y hy=>by have:=h1 y hy;have:=h y (List.mem_cons_of_mem _ hy);simp;omega
     rw[List.filter_cons_of_neg (by simpa using hx),List.filter_cons_of_pos (by simp;omega),e1,e2]
     rfl
  have ih:=Z5c n (l.filter fun x=>decide (x.player<n)) (hp.filter _) (fun x hx=>of_decide_eq_true (List.mem_filter.mp hx).2)
  have e3:(List.range n).flatMap (fun p=>(l.filter fun x=>decide (x.player<n)).filter fun x=>x.player==p)=(List.range n).flatMap (fun p=>l.filter fun x=>x.player==p):=by
   refine Zdl fun p hp=>?_
   rw[List.filter_filter]
   refine List.filter_congr fun x _=>?_
   have:=List.mem_range.mp hp
   by_cases z:x.player=p
   ·simp[z];omega
   ·simp[z]
  rw[← e3,ih]
  exact hsplit
theorem Z5h {v:Window Cells} (h:W0 v) (t:Nat):(List.range 4).flatMap (Li.cnt v.rules.most (Vbwsaf.firsts v.all) t)=Vbwsaf.countsFor v.rules.most v.all t:=by
 have sub:(Vbwsaf.countsOf v.rules.most (Vbwsaf.firsts v.all) t).Sublist v.all:=((Z3u _ _ _).trans List.filter_sublist).trans Li.Z32
 have:=Z5c 4 (Vbwsaf.countsOf v.rules.most (Vbwsaf.firsts v.all) t) ((h.ord.sublist sub).imp fun q=>Zb0 q) (fun x hx=>by have:=(h.inb x (sub.subset hx)).1;omega)
 unfold Vbwsaf.countsFor
 conv=>rhs;rw[← this]
 rw[show (Li.cnt v.rules.most (Vbwsaf.firsts v.all) t)=fun p=>(Vbwsaf.countsOf v.rules.most (Vbwsaf.firsts v.all) t).filter fun x=>x.player==p from funext fun p=>(Li.Z2e _ _ _ _).symm]
theorem Zdp {v:Window Cells} (h:W0 v) (t:Nat):(Vbwsaf.countsFor v.rules.most v.all t).length≤20:=by
 rw[← Z5h h]
 have:=Z2c (Li.cnt v.rules.most (Vbwsaf.firsts v.all) t) 5 (fun p=>Nat.le_trans (Li.Z8q _ _ _ _) h.mo.2) 4
 omega
theorem Zdo {v:Window Cells} {t:Nat} {x:Input} (h:x∈Vbwsaf.countsFor v.rules.most v.all t):x∈v.all:=
 (((Z3u _ _ _).trans List.filter_sublist).trans Li.Z32).subset h
theorem Z52:∀ (ds:List Deed),(∀ d∈ds,d.input.data.length≤4)→(ds.flatMap Vbwsaf.deedNums).length≤ds.length*10
 | [],_=>by simp
 | d::ds,h=>by
  rw[List.flatMap_cons,List.length_append,List.length_cons]
  have:=Z52 ds fun e he=>h e (List.mem_cons_of_mem _ he)
  have h2:=h d (List.mem_cons_self ..)
  have:(Vbwsaf.deedNums d).length=6+d.input.data.length:=by unfold Vbwsaf.deedNums;rw[List.length_append];rfl
  omega
section
variable {P:Program} {w:World} {K:PySem.W.Frag} {mg:Str→Option Value} {base:Heap}
def Z5q (T:TX K mg):Sp:=fun vs H Q _=>∃ (p:Addr) (a:Ad) (sas:List Addr) (v:Window Cells) (late:List (List Nat)) (seed:Int) (r:Addr) (n:Nat),vs=[.ref p,.ref r]∧Se T H p a sas v late seed∧W1 v∧late.length≤100∧LI H r [(n:Int)]∧(1≤n∧n≤1000)∧After T H p a sas v late seed (.counts (n:Int)) Q
theorem Z60 (T:TX K mg):FnOk P w K mg base CX0 3 T.tell_counts.f T.tell_counts.d ["session", "numbers"] (Z5q T):=by
 refine T.tell_counts.F.ok Uh (fun vs H Q E h=>?_) (fun cdv A outer s H vs Q E hr h=>?_)
 ·obtain ⟨p,a,sas,v,late,seed,r,n,rfl,_⟩:=h
  rfl
 ·obtain ⟨p,a,sas,v,late,seed,r,n,rfl,hS,hW,hll,hr1,hn,k⟩:=h
  refine ⟨_,(Z5 (Zc (pe_op Z28 (Zv (Z0 Z9 Z3)) (Zf (Z6z T) (hr.mono (by decide)) rfl T.rows_of.m T.rows_of.F.kp T.rows_of.b .nil pass0 (Z0 (pe_lc (own:=[("one",2)]) rfl Uh.nd (Ul (Zf (Z4w T) (hr.mono (by decide)) rfl T.counting_for.m T.counting_for.F.kp T.counting_for.b .nil pass0 (Z0 (Za (pv 0) rfl) (Z0 (pe_ix Zj (pv 1) Z9 (fun _ _=>rfl)) Z3)))) (Xw rfl) (fun _ _ _ _ _=>(Y4 (i:=2) Uh.nd rfl (Or.inl rfl))) (fun _ _ _ _ _=>Z1j) (fun _ _ _ _ _=>(Z4s (Z0 (pv 2) (Z0 Z9 Z3))))) Z3))))),?_⟩
  obtain ⟨dx,ho⟩:=hS.ob
  have e0:=Za5 v seed late hn
  refine ⟨by show 1≤sizeLine;decide,fun z0 hz0=>?_⟩
  have s1:=Same.new (o:=.lst [V.int 0]) hz0
  have hS1:=hS.same s1
  have ho1:=s1 _ _ ho
  have hr2:=s1 _ _ hr1
  refine ⟨_,rfl,p,_,dx,_,_,rfl,ho1,T.Z1,T.Yw,rfl,_,rfl,r,_,_,_,rfl,rfl,SqL.of hr2,Zl (j:=0) rfl,a.dc,_,n,rfl,Se.cnt hS1,fun H2 c s2 hc=>?_⟩
  rw[Z5h hW.w0] at hc
  obtain ⟨as,hc1,hc2⟩:=hc
  have la:as.length=(Vbwsaf.countsFor v.rules.most v.all n).length:=Paired.length hc2
  have cl:=Zdp hW.w0 n
  refine ⟨c,rfl,⟨_,SqL.of hc1⟩,fun D hD=>?_⟩
  refine Z59 (K:=K) (a:=c) (xs:=as.map V.ref) (fun i H'=>Same H2 H'∧Lof DeAt H' D (((Vbwsaf.countsFor v.rules.most v.all n).take i).map fun x=>⟨x,false⟩)) ⟨Same.new hD,[],Z2,.nil⟩ (fun i H' _ q=>SqL.of (q.1 _ _ hc1)) ?_ ?_
  ·rintro i x H3 hi ⟨s3,fs,hf1,hf2⟩
   obtain ⟨b,hb,rfl⟩:=Xc hi
   obtain ⟨y,hy,hby⟩:=Y5 hc2 hb
   have lf:fs.length=((Vbwsaf.countsFor v.rules.most v.all n).take i).length:=by rw[Paired.length hf2,List.length_map]
   refine ⟨rfl,?_⟩
   simp only[tYes,if_true]
   refine ⟨_,rfl,by show 2≤sizeLine;decide,fun q hq=>?_⟩
   have s4:=Same.new (o:=.tup [V.ref b,V.int 0]) hq
   have hD4:=s4 _ _ hf1
   refine ⟨_,hD4,by rw[List.length_map,lf,List.length_take,sizeLine_eq];omega,Wa (s3.trans s4) hD,fs++[q],by rw[Z2,List.map_append];rfl,?_⟩
   rw[List.take_add_one,hy,List.map_append]
   refine Xq (Paired.mapP hf2 fun _ _ u=>(u.same s4).mono (Ys hD4)) ?_
   exact ⟨b,Ys hD4 _ _ Z2,NAt.mono ((InAt.same hby s3).same s4) (Ys hD4)⟩
  ·rintro H3 ⟨s3,hl3⟩
   rw[List.length_map,la,List.take_length] at hl3
   have hdl:∀ d∈(Vbwsaf.countsFor v.rules.most v.all n).map (fun x=>(⟨x,false⟩:Deed)),d.input.data.length≤4:=fun d hd=>by
    obtain ⟨x,hx,rfl⟩:=List.mem_map.mp hd
    exact (hW.w0.inb x (Zdo hx)).2.2
   refine ⟨D,_,rfl,hl3,by rw[List.length_map];omega,fun d hd=>Nat.le_trans (hdl d hd) (by decide),fun H4 q4 s4 h4=>?_⟩
   have ef:((Vbwsaf.countsFor v.rules.most v.all n).map (fun x=>(⟨x,false⟩:Deed))).flatMap Vbwsaf.deedNums=(Vbwsaf.countsFor v.rules.most v.all n).flatMap fun x=>Vbwsaf.deedNums ⟨x,false⟩:=by rw[List.flatMap_map]
   have nl:=Z52 _ hdl
   rw[List.length_map] at nl
   have s14:=(s1.trans s2).trans (s3.trans s4)
   refine ⟨z0,q4,_,_,rfl,rfl,(s2.trans (s3.trans s4)) _ _ Z2,h4,(by rw[List.length_map,sizeLine_eq];show 1+_≤_;omega),fun l hl=>?_⟩
   rw[← ef] at e0
   exact k.fin e0 (hS.same s14) hW hll (Fr.of s14) (by rw[List.length_cons];omega) hl
def Z7p (T:TX K mg):Sp:=fun vs H Q _=>∃ (p:Addr) (a:Ad) (sas:List Addr) (v:Window Cells) (late:List (List Nat)) (seed:Int) (r:Addr) (n:Nat),vs=[.ref p,.ref r]∧Se T H p a sas v late seed∧W1 v∧late.length≤100∧LI H r [(n:Int)]∧(1≤n∧n≤1000)∧After T H p a sas v late seed (.deeds (n:Int)) Q
theorem Z8e (T:TX K mg):FnOk P w K mg base CX0 5 T.tell_deeds.f T.tell_deeds.d ["session", "numbers"] (Z7p T):=by
 refine T.tell_deeds.F.ok Z80 (fun vs H Q E h=>?_) (fun cdv A outer s H vs Q E hr h=>?_)
 ·obtain ⟨p,a,sas,v,late,seed,r,n,rfl,_⟩:=h
  rfl
 ·obtain ⟨p,a,sas,v,late,seed,r,n,rfl,hS,hW,hll,hr1,hn,k⟩:=h
  refine ⟨_,(Z5 (Zc (pe_op Z28 (Zv (Z0 Z9 Z3)) (Zf (Z6z T) (hr.mono (by decide)) rfl T.rows_of.m T.rows_of.F.kp T.rows_of.b .nil pass0 (Z0 (Yf (pv 0) T.Z1 T.Y0.M (Xk T) (hr.mono (by decide)) T.Y0.b .nil pass0 (Z0 (pe_ix Zj (pv 1) Z9 (fun _ _=>rfl)) Z3)) Z3))))),?_⟩
  obtain ⟨dx,ho⟩:=hS.ob
  have e0:=Zcu v seed late hn
  refine ⟨by show 1≤sizeLine;decide,fun z0 hz0=>?_⟩
  have s1:=Same.new (o:=.lst [V.int 0]) hz0
  have hS1:=hS.same s1
  have ho1:=s1 _ _ ho
  have hr2:=s1 _ _ hr1
  refine ⟨_,rfl,p,dx,_,rfl,ho1,rfl,_,rfl,r,_,_,_,rfl,rfl,SqL.of hr2,Zl (j:=0) rfl,p,a,sas,v,late,seed,n,rfl,hS1,Nat.le_trans hW.w0.sl (by decide),Nat.le_trans hW.w0.ho (by decide),hn.1,by omega,fun H2 q s2 _ hq=>?_⟩
  have dl:=Zfy v hW.w0.mo.2 n
  have hdl:∀ d∈Vbwsaf.deedsIn v n,d.input.data.length≤4:=fun d hd=>(hW.w0.inb _ (Zcb hd)).2.2
  refine ⟨q,_,rfl,hq,by omega,fun d hd=>Nat.le_trans (hdl d hd) (by decide),fun H4 q4 s4 h4=>?_⟩
  have nl:=Z52 _ hdl
  have s14:=(s1.trans s2).trans s4
  refine ⟨z0,q4,_,_,rfl,rfl,(s2.trans s4) _ _ Z2,h4,(by rw[List.length_map,sizeLine_eq];show 1+_≤_;omega),fun l hl=>?_⟩
  exact k.fin e0 (hS.same s14) hW hll (Fr.of s14) (by rw[List.length_cons];omega) hl
def Z8w (T:TX K mg):Sp:=fun vs H Q _=>∃ (p:Addr) (a:Ad) (sas:List Addr) (v:Window Cells) (late:List (List Nat)) (seed:Int) (r:Addr) (x y z:Nat),vs=[.ref p,.ref r]∧Se T H p a sas v late seed∧W1 v∧late.length≤100∧LI H r [(x:Int),(y:Int),(z:Int)]∧x≤3∧(1≤y∧y≤40)∧(1≤z∧z≤100000)∧After T H p a sas v late seed (.fate (x:Int) (y:Int) (z:Int)) Q
theorem Zh5 (s:Vbwsaf.State) (p k n:Nat):(Vbwsaf.fateOf s p k n).length=2:=by
 unfold Vbwsaf.fateOf
 split <;> rfl
theorem Z9f (T:TX K mg):FnOk P w K mg base CX0 4 T.tell_fate.f T.tell_fate.d ["session", "numbers"] (Z8w T):=by
 refine T.tell_fate.F.ok Z92 (fun vs H Q E h=>?_) (fun cdv A outer s H vs Q E hr h=>?_)
 ·obtain ⟨p,a,sas,v,late,seed,r,x,y,z,rfl,_⟩:=h
  rfl
 ·obtain ⟨p,a,sas,v,late,seed,r,x,y,z,rfl,hS,hW,hll,hr1,b1,b2,b3,k⟩:=h
  refine ⟨_,(Z5 (Zc (pe_op Z28 (Zv (Z0 Z9 Z3)) (Yf (pv 0) T.Z1 T.X4.M (Z1l T) (hr.mono (by decide)) T.X4.b .nil pass0 (Z0 (Z06 Z2h rfl T.b_tuple Zcf (Z0 (pv 1) Z3)) Z3))))),?_⟩
  obtain ⟨dx,ho⟩:=hS.ob
  have e0:=Zed v seed late b1 b2 b3
  refine ⟨by show 1≤sizeLine;decide,fun z0 hz0=>?_⟩
  have s1:=Same.new (o:=.lst [V.int 0]) hz0
  have ho1:=s1 _ _ ho
  have hr2:=s1 _ _ hr1
  refine ⟨_,rfl,p,dx,_,rfl,ho1,rfl,_,rfl,r,_,rfl,.inl ⟨SqL.of hr2,fun q hq=>?_⟩⟩
  have s2:=s1.trans (Same.new (o:=.tup [V.int (x:Int),V.int (y:Int),V.int (z:Int)]) hq)
  refine ⟨p,a,sas,v,late,seed,q,x,y,z,rfl,hS.same s2,hW.w0,Z2,fun H3 l3 s3 h3=>?_⟩
  have fl:=Zh5 ⟨some v,seed,late⟩ x y z
  have s13:=s2.trans s3
  refine ⟨z0,l3,_,_,rfl,rfl,((Same.new hq).trans s3) _ _ Z2,h3,(by rw[List.length_map,fl];show 1+2≤sizeLine;decide),fun l hl=>?_⟩
  exact k.fin e0 (hS.same s13) hW hll (Fr.of s13) (by rw[List.length_cons,fl];decide) hl
def Z7n (T:TX K mg):Sp:=fun vs H Q _=>∃ (p:Addr) (a:Ad) (sas:List Addr) (v:Window Cells) (late:List (List Nat)) (seed:Int) (r:Addr),vs=[.ref p,.ref r]∧Se T H p a sas v late seed∧W1 v∧late.length≤100∧After T H p a sas v late seed .ready Q
theorem Z8c (T:TX K mg):FnOk P w K mg base CX0 4 T.tell_ready.f T.tell_ready.d ["session", "numbers"] (Z7n T):=by
 refine T.tell_ready.F.ok Z7y (fun vs H Q E h=>?_) (fun cdv A outer s H vs Q E hr h=>?_)
 ·obtain ⟨p,a,sas,v,late,seed,r,rfl,_⟩:=h
  rfl
 ·obtain ⟨p,a,sas,v,late,seed,r,rfl,hS,hW,hll,k⟩:=h
  refine ⟨_,(Z5 (Zc (Zv (Z0 Z9 (Z0 (Z27 (Z4q (Jq (pv 0) T.Z1 T.Ya.M (U1 T) (hr.mono (by decide)) T.Ya.b .nil pass0)) Z9 Z9) Z3))))),?_⟩
  obtain ⟨dx,ho⟩:=hS.ob
  have e0:=Zcq v seed late
  refine ⟨_,rfl,p,dx,_,rfl,ho,rfl,p,a,sas,v,late,seed,rfl,hS,Nat.le_trans hW.w0.sl (by decide),fun H1 s1=>⟨_,rfl,?_⟩⟩
  refine ite2 (fun z=>?_) (fun z=>?_)
  ·rw[if_pos z] at e0
   refine ⟨by show 2≤sizeLine;decide,fun l hl=>?_⟩
   exact k.fin e0 (hS.same s1) hW hll (Fr.of s1) (by show 2≤1000;decide) hl
  ·rw[if_neg z] at e0
   refine ⟨by show 2≤sizeLine;decide,fun l hl=>?_⟩
   exact k.fin e0 (hS.same s1) hW hll (Fr.of s1) (by show 2≤1000;decide) hl
def Za6 (T:TX K mg):Sp:=fun vs H Q _=>∃ (p:Addr) (a:Ad) (sas:List Addr) (v:Window Cells) (late:List (List Nat)) (seed:Int) (r:Addr),vs=[.ref p,.ref r]∧Se T H p a sas v late seed∧W1 v∧late.length≤100∧After T H p a sas v late seed .now Q
theorem Zao (T:TX K mg):FnOk P w K mg base CX0 1 T.tell_now.f T.tell_now.d ["session", "numbers"] (Za6 T):=by
 refine T.tell_now.F.ok Zag (fun vs H Q E h=>?_) (fun cdv A outer s H vs Q E hr h=>?_)
 ·obtain ⟨p,a,sas,v,late,seed,r,rfl,_⟩:=h
  rfl
 ·obtain ⟨p,a,sas,v,late,seed,r,rfl,hS,hW,hll,k⟩:=h
  refine ⟨_,(Z5 (Zc (pe_op Z28 (Zv (Z0 Z9 (Z0 (Za (pv 0) rfl) (Z0 (Za (pv 0) rfl) (Z0 (Zu Z9r rfl T.b_len Jo (Z0 (Za (pv 0) rfl) Z3)) (Z0 (Zu Z9q rfl T.b_len Jo (Z0 (Za (pv 0) rfl) Z3)) Z3)))))) (Za (pv 0) rfl)))),?_⟩
  obtain ⟨dx,ho⟩:=hS.ob
  have e0:=Zgg v seed late
  obtain ⟨ks,hk1,hk2⟩:=hS.kp
  have hkl:(ks.map fun x=>(inK x,V.bl true)).length=v.all.length:=by rw[List.length_map];exact hk2.length_eq.symm
  have hltl:(ltK late).length=late.length:=by unfold ltK;rw[List.length_map,List.length_reverse]
  refine ⟨_,rfl,p,_,dx,_,_,rfl,ho,T.Z1,T.Zh,rfl,_,rfl,p,_,dx,_,_,rfl,ho,T.Z1,T.Zn,rfl,_,rfl,p,_,dx,_,_,rfl,ho,T.Z1,T.X2,rfl,a.dk,_,rfl,hk1,_,rfl,p,_,dx,_,_,rfl,ho,T.Z1,T.Xu,rfl,a.dl,_,rfl,hS.lt,by show 5≤sizeLine;decide,fun z0 hz0=>?_⟩
  rw[hkl,hltl]
  have s1:=Same.new (o:=.lst [V.int 0,V.int (v.now:Int),V.int (v.settled:Int),V.int (v.all.length:Int),V.int (late.length:Int)]) hz0
  have ho1:=s1 _ _ ho
  have l6:=hW.w0.hd.len
  refine ⟨_,rfl,p,_,dx,_,_,rfl,ho1,T.Z1,T.Yo,rfl,z0,a.c,_,_,rfl,rfl,Z2,Z0r _ _ _ _ (hS.same s1).cl,(by rw[List.length_map,l6];show 5+6≤sizeLine;decide),fun l hl=>?_⟩
  have:=k.fin e0 (hS.same s1) hW hll (Fr.of s1) (by rw[List.length_append,l6];show 5+6≤1000;decide) hl
  rw[List.map_append] at this
  exact this
end
end Pr
end
section
namespace Pr
open PySem PySem.Spec PyProof.Rows L2
open Vbwsaf (Input Deed Stay Window Cells State)
section
variable {P:Program} {w:World} {K:PySem.W.Frag} {mg:Str→Option Value} {base:Heap}
def Z2l (T:TX K mg):Sp:=fun vs H Q _=>∃ (p:Addr) (a:Ad) (sas:List Addr) (v:Window Cells) (late:List (List Nat)) (seed:Int) (r:Addr),vs=[.ref p,.ref r]∧Se T H p a sas v late seed∧W1 v∧late.length≤100∧After T H p a sas v late seed .snaps Q
theorem snK_fst {R:Addr→Nat×Cells→Prop} {cs:List Addr} {ss:List (Nat×Cells)} (h:Paired R cs ss):(snK cs ss).map (·.1)=(ss.map fun s=>(s.1:Int)).map Sum.inl:=by
 induction h with
 | nil=>rfl
 | @cons b s cs ss r tl ih=>
  show (Sum.inl (s.1:Int):Key)::(snK cs ss).map (·.1)=_
  rw[ih]
  rfl
theorem Z2u (T:TX K mg):FnOk P w K mg base CX0 1 T.tell_snapshots.f T.tell_snapshots.d ["session", "numbers"] (Z2l T):=by
 refine T.tell_snapshots.F.ok Z2q (fun vs H Q E h=>?_) (fun cdv A outer s H vs Q E hr h=>?_)
 ·obtain ⟨p,a,sas,v,late,seed,r,rfl,_⟩:=h
  rfl
 ·obtain ⟨p,a,sas,v,late,seed,r,rfl,hS,hW,hll,k⟩:=h
  refine ⟨_,(Z5 (Zc (pe_op Z28 (Zv (Z0 Z9 Z3)) (Zu (Zdn rfl) rfl T.b_sorted Z9s (Z0 (Za (pv 0) rfl) Z3))))),?_⟩
  obtain ⟨dx,ho⟩:=hS.ob
  have e0:=Zco v seed late
  refine ⟨by show 1≤sizeLine;decide,fun z0 hz0=>?_⟩
  have s1:=Same.new (o:=.lst [V.int 0]) hz0
  have hS1:=hS.same s1
  have ho1:=s1 _ _ ho
  obtain ⟨cs,hd,hp⟩:=hS1.sn
  have hlen:=hW.len
  refine ⟨_,rfl,p,_,dx,_,_,rfl,ho1,T.Z1,T.Zo,rfl,a.ds,_,_,rfl,hd,snK_fst hp,by rw[List.length_map];omega,fun ns q hperm hsort hq=>?_⟩
  have hinc:(v.snaps.map fun s=>(s.1:Int)).Pairwise (·≤·):=by
   rw[List.pairwise_map]
   exact hW.sn.inc.imp fun {x y} h=>by omega
  have en:ns=v.snaps.map fun s=>(s.1:Int):=List.Perm.eq_of_pairwise (fun x y _ _ h1 h2=>by omega) hsort hinc hperm
  subst en
  have s2:=s1.trans (Same.new (o:=.lst ((v.snaps.map fun s=>(s.1:Int)).map V.int)) hq)
  refine ⟨z0,q,_,_,rfl,rfl,(Same.new hq) _ _ Z2,Z2,(by rw[List.length_map,List.length_map,sizeLine_eq];show 1+_≤_;omega),fun l hl=>?_⟩
  exact k.fin e0 (hS.same s2) hW hll (Fr.of s2) (by rw[List.length_cons,List.length_map];omega) hl
def Z7m (T:TX K mg):Sp:=fun vs H Q _=>∃ (p:Addr) (a:Ad) (sas:List Addr) (v:Window Cells) (late:List (List Nat)) (seed:Int) (r:Addr),vs=[.ref p,.ref r]∧Se T H p a sas v late seed∧W1 v∧late.length≤100∧After T H p a sas v late seed .stays Q
theorem Zhh (ss:List Stay):(ss.flatMap stRow).length=ss.length*4:=by
 induction ss with
 | nil=>rfl
 | cons s ss ih=>rw[List.flatMap_cons,List.length_append,ih,List.length_cons,show (stRow s).length=4 from rfl];omega
theorem Za3 (v:Window Cells) (seed:Int) (late:List (List Nat)):Vbwsaf.step (stt v seed late) .stays=(stt v seed late,0::v.stays.flatMap stRow):=by
 rw[Zcn]
 congr 2
theorem Z8b (T:TX K mg):FnOk P w K mg base CX0 2 T.tell_stays.f T.tell_stays.d ["session", "numbers"] (Z7m T):=by
 refine T.tell_stays.F.ok W7 (fun vs H Q E h=>?_) (fun cdv A outer s H vs Q E hr h=>?_)
 ·obtain ⟨p,a,sas,v,late,seed,r,rfl,_⟩:=h
  rfl
 ·obtain ⟨p,a,sas,v,late,seed,r,rfl,hS,hW,hll,k⟩:=h
  refine ⟨_,(Z4 (Zy (i:=2) W7.nd rfl (Or.inl rfl) (Zv (Z0 Z9 Z3)))
   (Z4 (Jy PassesOwn.never rfl (Ul (Za (pv 0) rfl)) (Y4 (i:=3) W7.nd rfl (Or.inl rfl)) (Z5 (Zx (pe_bm PySem.F.plainAttrs_list PySem.F.slot_list_extend PySem.F.type_list_extend Ux (pv 2) (Z0 (Zf (Zf3 T) (hr.mono (by decide)) rfl T.row_of.m T.row_of.F.kp T.row_of.b .nil pass0 (Z0 (pv 3) Z3)) Z3)))))
   (Z5 (Zc (pv 2))))),?_⟩
  obtain ⟨dx,ho⟩:=hS.ob
  have e0:=Za3 v seed late
  have hsl:=hW.w0.sl
  have hlen:sas.length=v.stays.length:=Paired.length hS.st.at_
  refine ⟨by show 1≤sizeLine;decide,fun D hD=>?_⟩
  have s1:=Same.new (o:=.lst [V.int 0]) hD
  have ho1:=s1 _ _ ho
  refine ⟨_,rfl,p,_,dx,_,_,rfl,ho1,T.Z1,T.Zt,rfl,a.ls,rfl,⟨_,SqL.of (s1 _ _ hS.st.lst)⟩,Z2b (K:=K) (a:=a.ls) (xs:=sas.map V.ref) (fun i σ H'=>∃ u:Option V,σ=[some (.ref p),some (.ref r),some (.ref D),u]∧Same H H'∧LI H' D (0::(v.stays.take i).flatMap stRow))
   ⟨none,rfl,s1,Z2⟩ (fun i σ H' _ ⟨_,_,s2,_⟩=>SqL.of (s2 _ _ hS.st.lst)) ?_ ?_⟩
  ·rintro i y σ H2 hi ⟨u,rfl,s2,h2⟩
   obtain ⟨b,hb,rfl⟩:=Xc hi
   obtain ⟨st,hst,hat⟩:=Y5 hS.st.at_ hb
   refine ⟨_,rfl,.inl ⟨rfl,_,SqL.of h2⟩,_,rfl,b,st,rfl,hat.same s2,fun q hq=>?_⟩
   have s3:=Same.new (o:=.lst ((stRow st).map V.int)) hq
   have lt:(0::(v.stays.take i).flatMap stRow).length≤161:=by
    rw[List.length_cons,Zhh,List.length_take];omega
   refine ⟨D,q,_,_,rfl,rfl,s3 _ _ h2,Z2,(by rw[List.length_map,List.length_map,sizeLine_eq,show (stRow st).length=4 from rfl];omega),_,rfl,Wa (s2.trans s3) hD,?_⟩
   show upd _ D _ D=_
   rw[Z2,List.take_add_one,hst,List.flatMap_append,← List.map_append]
   simp
  ·rintro σ H2 ⟨u,rfl,s2,h2⟩
   rw[List.length_map,hlen,List.take_length] at h2
   have hDn:D ∉ mset p a sas:=hS.new hD
   exact ⟨_,rfl,k H2 a sas v late _ D e0 (hS.same s2) hW hll (Fr.of s2) (Y3 h2 hDn) (by rw[List.length_cons,Zhh];omega)⟩
def isData:HO→Prop
 | .lst _=>True
 | .tup _=>True
 | .dT _=>True
 | _=>False
theorem CtAt.move {H H':Hp} {d:Addr} {c:Nat→Nat→List Input} (h:CtAt H d c) (m:∀ b u,H b=some u→isData u→H' b=some u):CtAt H' d c:=by
 obtain ⟨kvs,c1,c2⟩:=h.ex
 refine ⟨⟨kvs,m _ _ c1 trivial,fun t q=>⟨(c2 t q).1,fun u hu=>?_⟩⟩,h.bd⟩
 obtain ⟨l,e1,as,l1,l2⟩:=(c2 t q).2 u hu
 refine ⟨l,e1,as,m _ _ l1 trivial,Paired.mapP l2 fun _ _ r=>?_⟩
 obtain ⟨d,r1,r2⟩:=r
 exact ⟨d,m _ _ r1 trivial,m _ _ r2 trivial⟩
theorem SeAt.move {C CS:Addr} {H H':Hp} {p:Addr} {a:Ad} {sas:List Addr} {v:Window Cells} {late:List (List Nat)} {seed:Int} (h:SeAt C CS H p a sas v late seed) (hM:∀ b∈mset p a sas,H' b=H b)
  (hD:∀ b u,H b=some u→b ∉ mset p a sas→isData u→H' b=some u):SeAt C CS H' p a sas v late seed:=by
 have m:∀ b u,res H (mset p a sas) b=some u→isData u→res H' (mset p a sas) b=some u:=fun b u e d=>by
  obtain ⟨e1,e2⟩:=Uc e
  exact Y3 (hD b u e1 e2 d) e2
 obtain ⟨dx,h1⟩:=h.ob
 obtain ⟨ks,h2,hk⟩:=h.kp
 obtain ⟨cs,h4,h5⟩:=h.sn
 refine ⟨⟨dx,by rw[hM _ (by simp)];exact h1⟩,⟨by rw[hM _ (by simp)];exact h.st.lst,h.st.nd,?_⟩,⟨ks,by rw[hM _ (by simp)];exact h2,hk⟩,by rw[hM _ (by simp)];exact h.lt,⟨cs,by rw[hM _ (by simp)];exact h4,Paired.mapP h5 fun _ _ r=>m _ _ r trivial⟩,h.ct.move m,m _ _ h.b0 trivial,m _ _ h.cl trivial⟩
 have go:∀ {as:List Addr} {ss:List Stay},Paired (StAt CS H) as ss→(∀ b∈as,b∈sas)→Paired (StAt CS H') as ss:=by
  intro as ss hp
  induction hp with
  | nil=>intro _;exact .nil
  | cons r t ih=>
   intro hm
   obtain ⟨dz,r⟩:=r
   exact .cons ⟨dz,by rw[hM _ (by simp[hm _ (List.mem_cons_self ..)])];exact r⟩ (ih fun b hb=>hm b (List.mem_cons_of_mem _ hb))
 exact go h.st.at_ fun b hb=>hb
inductive LnAt (T:TX K mg) (H:Hp) (L:Addr):List Addr→State→Prop where
 | no {dy:Addr} {seed:Int}:H L=some (.ins T.cLine dy [("session",.non)])→LnAt T H L [L] ⟨none,seed,[]⟩
 | yes {dy p:Addr} {a:Ad} {sas:List Addr} {v:Window Cells} {late:List (List Nat)} {seed:Int}:H L=some (.ins T.cLine dy [("session",.ref p)])→Se T H p a sas v late seed→W1 v→late.length≤100→L ∉ mset p a sas→LnAt T H L (mset p a sas) ⟨some v,seed,late⟩
theorem W1.opened {o a m h e:Nat} {seed:Int} (h1:1≤o∧o≤16) (h2:a≤16) (h3:1≤m∧m≤5) (h4:h≤5) (h5:1≤e∧e≤8):W1 (Vbwsaf.opened ⟨o,a,m,h,e⟩ (Vbwsaf.first seed)):=by
 refine ⟨⟨h1,h2,h3,h4,h5,List.Pairwise.nil,Nat.zero_le _,fun x hx=>(nomatch hx),Nat.zero_le _,Z3y seed,fun s hs=>?_⟩,⟨h5.1,Nat.le_refl _,0,Nat.zero_mod _,Nat.le_refl _,(show 0<0+e by omega),?_⟩,Nat.zero_le _,Nat.zero_le _,List.Pairwise.nil⟩
 ·have:s=(0,Vbwsaf.first seed):=by simpa [Vbwsaf.opened] using hs
  rw[this]
  exact Z3y seed
 ·show [0]=tk 0 0 e
  unfold tk
  simp
def Z3k (T:TX K mg):Sp:=fun vs H Q _=>∃ (L r:Addr) (M:List Addr) (s:State) (o a m h e:Nat) (seed:Int),vs=[.ref L,.ref r]∧LnAt T H L M s∧LI H r [(o:Int),(a:Int),(m:Int),(h:Int),(e:Int),seed]∧(1≤o∧o≤16)∧a≤16∧(1≤m∧m≤5)∧h≤5∧(1≤e∧e≤8)∧(0≤seed∧seed≤1000000) ∧
 ∀ H' M' l s' ans,Vbwsaf.step s (.open_ o a m h e seed)=(s',ans)→LnAt T H' L M' s'→Fr H M H' M'→LI (res H' M') l ans→ans.length≤1000→Q (.ref l) H'
theorem Zea (s:State) {o a m h e:Nat} {seed:Int} (h1:1≤o∧o≤16) (h2:a≤16) (h3:1≤m∧m≤5) (h4:h≤5) (h5:1≤e∧e≤8) (h6:0≤seed∧seed≤1000000) :
  Vbwsaf.step s (.open_ o a m h e seed)=if s.window.isSome=true then (s,[-5]) else (⟨some (Vbwsaf.opened ⟨o,a,m,h,e⟩ (Vbwsaf.first seed)),seed,[]⟩,[0]):=by
 unfold Vbwsaf.step
 simp only[Zi,Y9,inr_t (show (1:Int)≤(o:Int) by omega) (show (o:Int)≤16 by omega),inr_t (show (0:Int)≤(a:Int) by omega) (show (a:Int)≤16 by omega),inr_t (show (1:Int)≤(m:Int) by omega) (show (m:Int)≤5 by omega),inr_t (show (0:Int)≤(h:Int) by omega) (show (h:Int)≤5 by omega),inr_t (show (1:Int)≤(e:Int) by omega) (show (e:Int)≤8 by omega),inr_t h6.1 h6.2,Int.toNat_natCast,Bool.true_and,Bool.not_true]
 rw[if_neg (by decide)]
theorem Z3s (T:TX K mg):FnOk P w K mg base CX0 4 T.begin_session.f T.begin_session.d ["line", "numbers"] (Z3k T):=by
 refine T.begin_session.F.ok Z3o (fun vs H Q E h=>?_) (fun cdv A outer s H vs Q E hr h=>?_)
 ·obtain ⟨L,r,M,s0,o,a,m,h,e,seed,rfl,_⟩:=h
  rfl
 ·obtain ⟨L,r,M,s0,o,a,m,h,e,seed,rfl,hL,hr1,b1,b2,b3,b4,b5,b6,k⟩:=h
  obtain ⟨t_OPEN_ALREADY,Uq⟩:=T.Uq
  refine ⟨_,(Z4 (ps_if (Uu (Z89 (Za (pv 0) rfl))) (Z5 (Zc (Zv (Z0 (Zd (v:=.int (-5)) rfl Uq ⟨t_OPEN_ALREADY,rfl⟩) Z3)))) Zp)
   (Z4 (Yu (pv 0) (Zez T.Zdu (Z51 T) (hr.mono (by decide)) rfl T.Zdt T.Jf.b .nil pass0 (Z0 (pe_ix Zj (pv 1) Z9 (fun _ _=>rfl)) (Z0 (pe_ix Zj (pv 1) Z9 (fun _ _=>rfl)) (Z0 (pe_ix Zj (pv 1) Z9 (fun _ _=>rfl)) (Z0 (pe_ix Zj (pv 1) Z9 (fun _ _=>rfl)) (Z0 (pe_ix Zj (pv 1) Z9 (fun _ _=>rfl)) (Z0 (pe_ix Zj (pv 1) Z9 (fun _ _=>rfl)) Z3))))))) rfl)
   (Z5 (Zc (Zv (Z0 Z9 Z3)))))),?_⟩
  have e0:=Zea s0 b1 b2 b3 b4 b5 b6
  cases hL with
  | @yes dy p ad sas v late sd hL hS hW hll hn=>
   have e0:Vbwsaf.step ⟨some v,sd,late⟩ (.open_ o a m h e seed)=(⟨some v,sd,late⟩,[-5]):=e0
   refine ⟨_,rfl,L,_,dy,_,_,rfl,hL,T.Yp,T.Ze,rfl,_,rfl,iteT ?_⟩
   refine ⟨by show 1≤sizeLine;decide,fun l hl=>?_⟩
   exact k _ _ l _ _ e0 (.yes ((Same.new hl) _ _ hL) (hS.same (Same.new hl)) hW hll hn) (Fr.of (Same.new hl)) (Y3 Z2 (hS.new hl)) (by show 1≤1000;decide)
  | @no dy sd hL=>
   have e0:Vbwsaf.step ⟨none,sd,[]⟩ (.open_ o a m h e seed)=(⟨some (Vbwsaf.opened ⟨o,a,m,h,e⟩ (Vbwsaf.first seed)),seed,[]⟩,[0]):=e0
   have sq:=SqL.of (K:=K) hr1
   refine ⟨_,rfl,L,_,dy,_,_,rfl,hL,T.Yp,T.Ze,rfl,_,rfl,iteF ?_⟩
   refine ⟨_,rfl,r,_,_,_,rfl,rfl,sq,Zl (j:=0) rfl,_,rfl,r,_,_,_,rfl,rfl,sq,Zl (j:=1) rfl,_,rfl,r,_,_,_,rfl,rfl,sq,Zl (j:=2) rfl,_,rfl,r,_,_,_,rfl,rfl,sq,Zl (j:=3) rfl,_,rfl,r,_,_,_,rfl,rfl,sq,Zl (j:=4) rfl,_,rfl,r,_,_,_,rfl,rfl,sq,Zl (j:=5) rfl,fun x dz hx hz hxz=>?_⟩
   refine ⟨x,dz,o,a,m,h,e,seed,rfl,Z2,fun H1 ad hS1 f1=>⟨rfl,?_⟩⟩
   have fr1:∀ b u,H b=some u→H1 b=some u∧b ∉ mset x ad []:=fun b u e=>f1 b u (by rw[Z8 (Z6 e hx),Z8 (Z6 e hz)];exact e) (Z6 e hx)
   obtain ⟨hL1,hLn⟩:=fr1 _ _ hL
   refine ⟨_,rfl,L,_,dy,_,rfl,hL1,T.Yp,T.Ze,(by show 1<1000;decide),?_⟩
   refine ⟨by show 1≤sizeLine;decide,fun l hl=>?_⟩
   have hS2:Se T (upd H1 L (.ins T.cLine dy [("session",.ref x)])) x ad [] (Vbwsaf.opened ⟨o,a,m,h,e⟩ (Vbwsaf.first seed)) [] seed:=by
    refine SeAt.move hS1 (fun b hb=>Z8 (fun z=>hLn (z ▸ hb))) fun b u eb _ hd=>?_
    rw[Z8]
    ·exact eb
    ·intro z
     rw[z,hL1] at eb
     cases eb
     exact hd.elim
   have fr2:Fr H [L] (upd H1 L (.ins T.cLine dy [("session",.ref x)])) (mset x ad []):=by
    intro b u eb
    obtain ⟨q1,q2⟩:=Uc eb
    obtain ⟨q3,q4⟩:=fr1 b u q1
    exact Y3 (by rw[Z8 (by simpa using q2)];exact q3) q4
   refine k _ (mset x ad []) l _ _ e0 (.yes ((Same.new hl) _ _ Z2) (SeAt.same hS2 (Same.new hl)) (W1.opened b1 b2 b3 b4 b5) (Nat.zero_le _) hLn) (fr2.trans (Fr.of (Same.new hl))) (Y3 Z2 (SeAt.new hS2 hl)) (by show 1≤1000;decide)
end
end Pr
end
section
namespace Pr
open PySem PySem.Spec PyProof.Rows L2
open Vbwsaf (Input Deed Stay Window Cells State guarded)
noncomputable def tAlt (t u:TE):TE:=fun σ H Q=>t σ H Q∨u σ H Q
theorem Ud {X:Cx} {e:Expr} {t u:TE} (h1:PE X e t) (h2:PE X e u):PE X e (tAlt t u):=fun pins s σ H Q I h=>h.elim (fun q=>h1 pins s σ H Q I q) (fun q=>h2 pins s σ H Q I q)
theorem guard2 (s:State) (C b:Bool) (l:List (Int×Bool)) (k:Unit→State×List Int):guarded s ((-1,!C)::(-2,b)::l) k=if C=false then (s,[-1]) else if b=true then (s,[-2]) else guarded s l k:=by
 rw[Zi,Zi]
 cases C <;> rfl
theorem Zem:∀ q,q<16→(rowOf q).length=Li.wide q:=by
 have:∀ q:Fin 16,(rowOf q).length=Li.wide q:=by decide
 exact fun q h=>this ⟨q,h⟩
theorem Xf {n lo hi:Int} (h:Vbwsaf.inr n lo hi=true):lo≤n∧n≤hi:=by unfold Vbwsaf.inr at h;simpa using h
theorem Xi {n:Int} (h:0≤n):∃ k:Nat,n=(k:Int):=⟨n.toNat,by omega⟩
theorem fit_1 (x0:Int):numsFit 1 [x0]=Vbwsaf.isPlayer x0:=by
 show ((Vbwsaf.isPlayer x0&&true)&&true)=Vbwsaf.isPlayer x0
 rw[Bool.and_true,Bool.and_true]
theorem fit_2 (x0:Int):numsFit 2 [x0]=Vbwsaf.isPlayer x0:=by
 show ((Vbwsaf.isPlayer x0&&true)&&true)=Vbwsaf.isPlayer x0
 rw[Bool.and_true,Bool.and_true]
theorem fit_3 (x0 x1 x2 x3:Int) (x:List Int):numsFit 3 ([x0,x1,x2,x3]++x)=(Vbwsaf.isPlayer x0&&(Vbwsaf.inr x1 1 40&&(Vbwsaf.inr x2 1 100000&&(Vbwsaf.inr x3 1 1000&&(decide (x.length≤4)&&x.all fun z=>Vbwsaf.inr z (-1000000) 1000000))))):=by
 show ((inR (0,3) x0&&(inR (1,40) x1&&(inR (1,100000) x2&&(inR (1,1000) x3&&true))))&&(decide (x.length≤4)&&x.all fun z=>decide (-1000000≤z)&&decide (z≤1000000)))=(inR (0,3) x0&&(inR (1,40) x1&&(inR (1,100000) x2&&(inR (1,1000) x3&&(decide (x.length≤4)&&x.all fun z=>decide (-1000000≤z)&&decide (z≤1000000))))))
 cases inR (0,3) x0 <;> cases inR (1,40) x1 <;> cases inR (1,100000) x2 <;> cases inR (1,1000) x3 <;> rfl
theorem fit_4 (x0:Int):numsFit 4 [x0]=Vbwsaf.inr x0 1 50:=by
 show ((Vbwsaf.inr x0 1 50&&true)&&true)=Vbwsaf.inr x0 1 50
 rw[Bool.and_true,Bool.and_true]
theorem fit_5 (x0:Int):numsFit 5 [x0]=Vbwsaf.inr x0 1 50:=by
 show ((Vbwsaf.inr x0 1 50&&true)&&true)=Vbwsaf.inr x0 1 50
 rw[Bool.and_true,Bool.and_true]
theorem fit_6 (x0:Int):numsFit 6 [x0]=Vbwsaf.inr x0 1 16:=by
 show ((Vbwsaf.inr x0 1 16&&true)&&true)=Vbwsaf.inr x0 1 16
 rw[Bool.and_true,Bool.and_true]
theorem fit_7 (x0:Int):numsFit 7 [x0]=Vbwsaf.inr x0 0 400:=by
 show ((Vbwsaf.inr x0 0 400&&true)&&true)=Vbwsaf.inr x0 0 400
 rw[Bool.and_true,Bool.and_true]
theorem fit_8 (x0:Int):numsFit 8 [x0]=Vbwsaf.inr x0 1 1000:=by
 show ((Vbwsaf.inr x0 1 1000&&true)&&true)=Vbwsaf.inr x0 1 1000
 rw[Bool.and_true,Bool.and_true]
theorem fit_9 (x0:Int):numsFit 9 [x0]=Vbwsaf.inr x0 1 1000:=by
 show ((Vbwsaf.inr x0 1 1000&&true)&&true)=Vbwsaf.inr x0 1 1000
 rw[Bool.and_true,Bool.and_true]
theorem Zhq (x0 x1 x2:Int):numsFit 10 [x0,x1,x2]=(Vbwsaf.isPlayer x0&&(Vbwsaf.inr x1 1 40&&Vbwsaf.inr x2 1 100000)):=by
 show ((inR (0,3) x0&&(inR (1,40) x1&&(inR (1,100000) x2&&true)))&&true)=(inR (0,3) x0&&(inR (1,40) x1&&inR (1,100000) x2))
 cases inR (0,3) x0 <;> cases inR (1,40) x1 <;> cases inR (1,100000) x2 <;> rfl
theorem Zhp (x0:Int):numsFit 15 [x0]=Vbwsaf.inr x0 0 400:=by
 show ((Vbwsaf.inr x0 0 400&&true)&&true)=Vbwsaf.inr x0 0 400
 rw[Bool.and_true,Bool.and_true]
theorem fit_0 (x0 x1 x2 x3 x4 x5:Int):numsFit 0 [x0,x1,x2,x3,x4,x5]=(Vbwsaf.inr x0 1 16&&(Vbwsaf.inr x1 0 16&&(Vbwsaf.inr x2 1 5&&(Vbwsaf.inr x3 0 5&&(Vbwsaf.inr x4 1 8&&Vbwsaf.inr x5 0 1000000))))):=by
 show ((Vbwsaf.inr x0 1 16&&(Vbwsaf.inr x1 0 16&&(Vbwsaf.inr x2 1 5&&(Vbwsaf.inr x3 0 5&&(Vbwsaf.inr x4 1 8&&(Vbwsaf.inr x5 0 1000000&&true))))))&&true)=_
 rw[Bool.and_true,Bool.and_true]
theorem Z33 {l:List Int} (h:l.length=0):l=[]:=List.eq_nil_of_length_eq_zero h
theorem Xx {l:List Int} (h:l.length=1):∃ a,l=[a]:=by
 match l,h with
 | [a],_=>exact ⟨a,rfl⟩
theorem Zhe {l:List Int} (h:l.length=3):∃ a b c,l=[a,b,c]:=by
 match l,h with
 | [a,b,c],_=>exact ⟨a,b,c,rfl⟩
theorem Zdz {l:List Int} (h:l.length=4):∃ a b c d,l=[a,b,c,d]:=by
 match l,h with
 | [a,b,c,d],_=>exact ⟨a,b,c,d,rfl⟩
theorem Zhd {l:List Int} (h:l.length=6):∃ a b c d e f,l=[a,b,c,d,e,f]:=by
 match l,h with
 | [a,b,c,d,e,f],_=>exact ⟨a,b,c,d,e,f,rfl⟩
theorem ns_0 (s:State) (x0 x1 x2 x3 x4 x5:Int):VbwsafNeutral.step s (Li.callOfQ 0 [x0,x1,x2,x3,x4,x5] [])=Vbwsaf.step s (.open_ x0 x1 x2 x3 x4 x5):=rfl
theorem ns_1 (s:State) (x0:Int):VbwsafNeutral.step s (Li.callOfQ 1 [x0] [])=Vbwsaf.step s (.join x0):=rfl
theorem ns_2 (s:State) (x0:Int):VbwsafNeutral.step s (Li.callOfQ 2 [x0] [])=Vbwsaf.step s (.leave x0):=rfl
theorem ns_3 (s:State) (x0 x1 x2 x3:Int) (x:List Int):VbwsafNeutral.step s (Li.callOfQ 3 [x0,x1,x2,x3] x)=Vbwsaf.step s (.input x0 x1 x2 x3 x):=rfl
theorem ns_4 (s:State) (x0:Int):VbwsafNeutral.step s (Li.callOfQ 4 [x0] [])=Vbwsaf.step s (.tick x0):=rfl
theorem ns_5 (s:State) (x0:Int):VbwsafNeutral.step s (Li.callOfQ 5 [x0] [])=Vbwsaf.step s (.lock x0):=rfl
theorem ns_6 (s:State) (x0:Int):VbwsafNeutral.step s (Li.callOfQ 6 [x0] [])=Vbwsaf.step s (.resize x0):=rfl
theorem ns_7 (s:State) (x0:Int):VbwsafNeutral.step s (Li.callOfQ 7 [x0] [])=Vbwsaf.step s (.world x0):=rfl
theorem ns_8 (s:State) (x0:Int):VbwsafNeutral.step s (Li.callOfQ 8 [x0] [])=Vbwsaf.step s (.counts x0):=rfl
theorem ns_9 (s:State) (x0:Int):VbwsafNeutral.step s (Li.callOfQ 9 [x0] [])=Vbwsaf.step s (.deeds x0):=rfl
theorem ns_10 (s:State) (x0 x1 x2:Int):VbwsafNeutral.step s (Li.callOfQ 10 [x0,x1,x2] [])=Vbwsaf.step s (.fate x0 x1 x2):=rfl
theorem ns_11 (s:State):VbwsafNeutral.step s (Li.callOfQ 11 [] [])=Vbwsaf.step s (.snaps):=rfl
theorem ns_12 (s:State):VbwsafNeutral.step s (Li.callOfQ 12 [] [])=Vbwsaf.step s (.now):=rfl
theorem ns_13 (s:State):VbwsafNeutral.step s (Li.callOfQ 13 [] [])=Vbwsaf.step s (.stays):=rfl
theorem ns_14 (s:State):VbwsafNeutral.step s (Li.callOfQ 14 [] [])=Vbwsaf.step s (.ready):=rfl
theorem ns_15 (s:State) (x0:Int):VbwsafNeutral.step s (Li.callOfQ 15 [x0] [])=Vbwsaf.step s (.plain x0):=rfl
theorem Zcp (s:State) {q:Nat} {as x:List Int} (hq:q<16) (hl:as.length=Li.wide q) (hx:q≠3→x=[]):(numsFit q (as++x)=false→VbwsafNeutral.step s (Li.callOfQ q as x)=(s,[-1]))∧(numsFit q (as++x)=true→q≠0→s.window.isNone=true→VbwsafNeutral.step s (Li.callOfQ q as x)=(s,[-2])):=by
 match q,hq with
 | 0,_=>
  obtain ⟨x0,x1,x2,x3,x4,x5,rfl⟩:=Zhd hl
  rw[hx (by decide),List.append_nil,fit_0]
  refine ⟨fun h=>?_,fun _ h=>absurd rfl h⟩
  rw[ns_0]
  unfold Vbwsaf.step
  dsimp only
  rw[Zi,h]
  rfl
 | 1,_=>
  obtain ⟨x0,rfl⟩:=Xx hl
  rw[hx (by decide),List.append_nil,fit_1]
  rw[ns_1]
  refine ⟨fun h=>?_,fun h _ hn=>?_⟩
  ·unfold Vbwsaf.step
   simp only[Vbwsaf.noneOpen]
   rw[guard2,if_pos h]
  ·unfold Vbwsaf.step
   simp only[Vbwsaf.noneOpen]
   rw[guard2,if_neg (by rw[h];decide),if_pos hn]
 | 2,_=>
  obtain ⟨x0,rfl⟩:=Xx hl
  rw[hx (by decide),List.append_nil,fit_2]
  rw[ns_2]
  refine ⟨fun h=>?_,fun h _ hn=>?_⟩
  ·unfold Vbwsaf.step
   simp only[Vbwsaf.noneOpen]
   rw[guard2,if_pos h]
  ·unfold Vbwsaf.step
   simp only[Vbwsaf.noneOpen]
   rw[guard2,if_neg (by rw[h];decide),if_pos hn]
 | 3,_=>
  obtain ⟨x0,x1,x2,x3,rfl⟩:=Zdz hl
  rw[fit_3]
  rw[ns_3]
  refine ⟨fun h=>?_,fun h _ hn=>?_⟩
  ·unfold Vbwsaf.step
   simp only[Vbwsaf.noneOpen]
   rw[guard2,if_pos h]
  ·unfold Vbwsaf.step
   simp only[Vbwsaf.noneOpen]
   rw[guard2,if_neg (by rw[h];decide),if_pos hn]
 | 4,_=>
  obtain ⟨x0,rfl⟩:=Xx hl
  rw[hx (by decide),List.append_nil,fit_4]
  rw[ns_4]
  refine ⟨fun h=>?_,fun h _ hn=>?_⟩
  ·unfold Vbwsaf.step
   simp only[Vbwsaf.noneOpen]
   rw[guard2,if_pos h]
  ·unfold Vbwsaf.step
   simp only[Vbwsaf.noneOpen]
   rw[guard2,if_neg (by rw[h];decide),if_pos hn]
 | 5,_=>
  obtain ⟨x0,rfl⟩:=Xx hl
  rw[hx (by decide),List.append_nil,fit_5]
  rw[ns_5]
  refine ⟨fun h=>?_,fun h _ hn=>?_⟩
  ·unfold Vbwsaf.step
   simp only[Vbwsaf.noneOpen]
   rw[guard2,if_pos h]
  ·unfold Vbwsaf.step
   simp only[Vbwsaf.noneOpen]
   rw[guard2,if_neg (by rw[h];decide),if_pos hn]
 | 6,_=>
  obtain ⟨x0,rfl⟩:=Xx hl
  rw[hx (by decide),List.append_nil,fit_6]
  rw[ns_6]
  refine ⟨fun h=>?_,fun h _ hn=>?_⟩
  ·unfold Vbwsaf.step
   simp only[Vbwsaf.noneOpen]
   rw[guard2,if_pos h]
  ·unfold Vbwsaf.step
   simp only[Vbwsaf.noneOpen]
   rw[guard2,if_neg (by rw[h];decide),if_pos hn]
 | 7,_=>
  obtain ⟨x0,rfl⟩:=Xx hl
  rw[hx (by decide),List.append_nil,fit_7]
  rw[ns_7]
  refine ⟨fun h=>?_,fun h _ hn=>?_⟩
  ·unfold Vbwsaf.step
   simp only[Vbwsaf.noneOpen]
   rw[guard2,if_pos h]
  ·unfold Vbwsaf.step
   simp only[Vbwsaf.noneOpen]
   rw[guard2,if_neg (by rw[h];decide),if_pos hn]
 | 8,_=>
  obtain ⟨x0,rfl⟩:=Xx hl
  rw[hx (by decide),List.append_nil,fit_8]
  rw[ns_8]
  refine ⟨fun h=>?_,fun h _ hn=>?_⟩
  ·unfold Vbwsaf.step
   simp only[Vbwsaf.noneOpen]
   rw[guard2,if_pos h]
  ·unfold Vbwsaf.step
   simp only[Vbwsaf.noneOpen]
   rw[guard2,if_neg (by rw[h];decide),if_pos hn]
 | 9,_=>
  obtain ⟨x0,rfl⟩:=Xx hl
  rw[hx (by decide),List.append_nil,fit_9]
  rw[ns_9]
  refine ⟨fun h=>?_,fun h _ hn=>?_⟩
  ·unfold Vbwsaf.step
   simp only[Vbwsaf.noneOpen]
   rw[guard2,if_pos h]
  ·unfold Vbwsaf.step
   simp only[Vbwsaf.noneOpen]
   rw[guard2,if_neg (by rw[h];decide),if_pos hn]
 | 10,_=>
  obtain ⟨x0,x1,x2,rfl⟩:=Zhe hl
  rw[hx (by decide),List.append_nil,Zhq]
  rw[ns_10]
  refine ⟨fun h=>?_,fun h _ hn=>?_⟩
  ·unfold Vbwsaf.step
   simp only[Vbwsaf.noneOpen]
   rw[guard2,if_pos h]
  ·unfold Vbwsaf.step
   simp only[Vbwsaf.noneOpen]
   rw[guard2,if_neg (by rw[h];decide),if_pos hn]
 | 11,_=>
  have e:=Z33 hl
  subst e
  rw[hx (by decide),List.append_nil]
  rw[ns_11]
  refine ⟨fun h=>absurd h (by decide),fun h _ hn=>?_⟩
  unfold Vbwsaf.step
  simp only[Vbwsaf.noneOpen]
  rw[Zi,if_pos hn]
 | 12,_=>
  have e:=Z33 hl
  subst e
  rw[hx (by decide),List.append_nil]
  rw[ns_12]
  refine ⟨fun h=>absurd h (by decide),fun h _ hn=>?_⟩
  unfold Vbwsaf.step
  simp only[Vbwsaf.noneOpen]
  rw[Zi,if_pos hn]
 | 13,_=>
  have e:=Z33 hl
  subst e
  rw[hx (by decide),List.append_nil]
  rw[ns_13]
  refine ⟨fun h=>absurd h (by decide),fun h _ hn=>?_⟩
  unfold Vbwsaf.step
  simp only[Vbwsaf.noneOpen]
  rw[Zi,if_pos hn]
 | 14,_=>
  have e:=Z33 hl
  subst e
  rw[hx (by decide),List.append_nil]
  rw[ns_14]
  refine ⟨fun h=>absurd h (by decide),fun h _ hn=>?_⟩
  unfold Vbwsaf.step
  simp only[Vbwsaf.noneOpen]
  rw[Zi,if_pos hn]
 | 15,_=>
  obtain ⟨x0,rfl⟩:=Xx hl
  rw[hx (by decide),List.append_nil,Zhp]
  rw[ns_15]
  refine ⟨fun h=>?_,fun h _ hn=>?_⟩
  ·unfold Vbwsaf.step
   simp only[Vbwsaf.noneOpen]
   rw[guard2,if_pos h]
  ·unfold Vbwsaf.step
   simp only[Vbwsaf.noneOpen]
   rw[guard2,if_neg (by rw[h];decide),if_pos hn]
 | q+16,h=>exact absurd h (by omega)
section
variable {P:Program} {w:World} {K:PySem.W.Frag} {mg:Str→Option Value} {base:Heap}
theorem LnAt.same {T:TX K mg} {H H':Hp} {L:Addr} {M:List Addr} {s:State} (h:LnAt T H L M s) (q:Same H H'):LnAt T H' L M s:=by
 cases h with
 | no h=>exact .no (q _ _ h)
 | yes h1 h2 h3 h4 h5=>exact .yes (q _ _ h1) (h2.same q) h3 h4 h5
theorem LnAt.new {T:TX K mg} {H:Hp} {L:Addr} {M:List Addr} {s:State} (h:LnAt T H L M s) {l:Addr} (hl:H l=none):l ∉ M:=by
 cases h with
 | no h=>
  intro hm
  have:l=L:=by simpa using hm
  rw[this,h] at hl
  cases hl
 | yes h1 h2 h3 h4 h5=>exact h2.new hl
def Zei (T:TX K mg):Sp:=fun vs H Q _=>∃ (L r:Addr) (M:List Addr) (s:State) (q:Nat) (as x:List Int),vs=[.ref L,.int (q:Int),.ref r]∧q<16∧as.length=Li.wide q∧(q≠3→x=[])∧x.length≤10∧LI H r (as++x)∧LnAt T H L M s ∧
 ∀ H' M' l s' ans,VbwsafNeutral.step s (Li.callOfQ q as x)=(s',ans)→LnAt T H' L M' s'→Fr H M H' M'→LI (res H' M') l ans→ans.length≤1000→Q (.ref l) H'
theorem Zf4 (T:TX K mg):FnOk P w K mg base CX0 13 T.answer.f T.answer.d ["line", "call", "numbers"] (Zei T):=by
 refine T.answer.F.ok Z94 (fun vs H Q E h=>?_) (fun cdv A outer s H vs Q E hr h=>?_)
 ·obtain ⟨L,r,M,s0,q,as,x,rfl,_⟩:=h
  rfl
 ·obtain ⟨L,r,M,s0,q,as,x,rfl,hq,hl,hx,hxl,hr1,hL,k⟩:=h
  obtain ⟨t_NOTHING_OPEN,Ur⟩:=T.Ur
  obtain ⟨t_OPEN,Zfi⟩:=T.Zfi
  obtain ⟨t_OUT_OF_RANGE,Up⟩:=T.Up
  refine ⟨_,(Z4 (ps_if (Zbn (Z4q (Zf (Z61 T) (hr.mono (by decide)) rfl T.numbers_fit.m T.numbers_fit.F.kp T.numbers_fit.b .nil pass0 (Z0 (pv 1) (Z0 (pv 2) Z3))))) (Z5 (Zc (Zv (Z0 (Zd (v:=.int (-1)) rfl Up ⟨t_OUT_OF_RANGE,rfl⟩) Z3)))) Zp)
   (Z4 (ps_if (Zr op_eq (pv 1) (Zd (v:=.int 0) rfl Zfi ⟨t_OPEN,rfl⟩) (Y8 _)) (Z5 (Zc (Zf (Z3s T) (hr.mono (by decide)) rfl T.begin_session.m T.begin_session.F.kp T.begin_session.b .nil pass0 (Z0 (pv 0) (Z0 (pv 2) Z3))))) Zp)
   (Z4 (ps_if (Uu (Z6u (Za (pv 0) rfl))) (Z5 (Zc (Zv (Z0 (Zd (v:=.int (-2)) rfl Ur ⟨t_NOTHING_OPEN,rfl⟩) Z3)))) Zp)
   (Z4 (Zy (i:=3) Z94.nd rfl (Or.inl rfl) (Z87 T.kDOERS rfl T.m_DOERS (pv 1) (fun _ _=>rfl)))
   (Z5 (Zc (Ud (X0 (pv 3) (Z63 T) (hr.mono (by decide)) T.join_player.F.kp T.join_player.b .nil pass0 (Z0 (Za (pv 0) rfl) (Z0 (pv 2) Z3))) (Ud (X0 (pv 3) (Z4u T) (hr.mono (by decide)) T.leave_player.F.kp T.leave_player.b .nil pass0 (Z0 (Za (pv 0) rfl) (Z0 (pv 2) Z3))) (Ud (X0 (pv 3) (Zaq T) (hr.mono (by decide)) T.take_one.F.kp T.take_one.b .nil pass0 (Z0 (Za (pv 0) rfl) (Z0 (pv 2) Z3))) (Ud (X0 (pv 3) (Z8g T) (hr.mono (by decide)) T.make_ticks.F.kp T.make_ticks.b .nil pass0 (Z0 (Za (pv 0) rfl) (Z0 (pv 2) Z3))) (Ud (X0 (pv 3) (Z8h T) (hr.mono (by decide)) T.lock_ticks.F.kp T.lock_ticks.b .nil pass0 (Z0 (Za (pv 0) rfl) (Z0 (pv 2) Z3))) (Ud (X0 (pv 3) (Z3r T) (hr.mono (by decide)) T.resize_window.F.kp T.resize_window.b .nil pass0 (Z0 (Za (pv 0) rfl) (Z0 (pv 2) Z3))) (Ud (X0 (pv 3) (Z8a T) (hr.mono (by decide)) T.tell_world.F.kp T.tell_world.b .nil pass0 (Z0 (Za (pv 0) rfl) (Z0 (pv 2) Z3))) (Ud (X0 (pv 3) (Z60 T) (hr.mono (by decide)) T.tell_counts.F.kp T.tell_counts.b .nil pass0 (Z0 (Za (pv 0) rfl) (Z0 (pv 2) Z3))) (Ud (X0 (pv 3) (Z8e T) (hr.mono (by decide)) T.tell_deeds.F.kp T.tell_deeds.b .nil pass0 (Z0 (Za (pv 0) rfl) (Z0 (pv 2) Z3))) (Ud (X0 (pv 3) (Z9f T) (hr.mono (by decide)) T.tell_fate.F.kp T.tell_fate.b .nil pass0 (Z0 (Za (pv 0) rfl) (Z0 (pv 2) Z3))) (Ud (X0 (pv 3) (Z2u T) (hr.mono (by decide)) T.tell_snapshots.F.kp T.tell_snapshots.b .nil pass0 (Z0 (Za (pv 0) rfl) (Z0 (pv 2) Z3))) (Ud (X0 (pv 3) (Zao T) (hr.mono (by decide)) T.tell_now.F.kp T.tell_now.b .nil pass0 (Z0 (Za (pv 0) rfl) (Z0 (pv 2) Z3))) (Ud (X0 (pv 3) (Z8b T) (hr.mono (by decide)) T.tell_stays.F.kp T.tell_stays.b .nil pass0 (Z0 (Za (pv 0) rfl) (Z0 (pv 2) Z3))) (Ud (X0 (pv 3) (Z8c T) (hr.mono (by decide)) T.tell_ready.F.kp T.tell_ready.b .nil pass0 (Z0 (Za (pv 0) rfl) (Z0 (pv 2) Z3))) (X0 (pv 3) (Z8d T) (hr.mono (by decide)) T.tell_plain.F.kp T.tell_plain.b .nil pass0 (Z0 (Za (pv 0) rfl) (Z0 (pv 2) Z3))))))))))))))))))))))),?_⟩
  have hl6:as.length≤6:=by
   rw[hl]
   have:∀ q:Fin 16,Li.wide q≤6:=by decide
   exact this ⟨q,hq⟩
  have rl:(as++x).length≤16:=by rw[List.length_append];omega
  refine ⟨_,rfl,_,rfl,q,r,as++x,rfl,hq,hr1,by omega,by rw[Zem q hq,List.length_append];omega,fun H1 s1=>⟨_,rfl,?_⟩⟩
  obtain ⟨sh1,sh2⟩:=Zcp s0 hq hl hx
  have hL1:=hL.same s1
  have hr2:=s1 _ _ hr1
  have told:∀ n:Int,VbwsafNeutral.step s0 (Li.callOfQ q as x)=(s0,[n])→∀ l,H1 l=none→Q (.ref l) (upd H1 l (.lst [V.int n])):=fun n e l hl=>by
   exact k _ M l s0 [n] e (hL1.same (Same.new hl)) (Fr.of (s1.trans (Same.new hl))) (Y3 Z2 (hL1.new hl)) (by show 1≤1000;decide)
  cases hf:numsFit q (as++x) with
  | false=>exact iteT ⟨by show 1≤sizeLine;decide,told (-1) (sh1 hf)⟩
  | true=>
   refine iteF ⟨_,rfl,rfl,_,rfl,?_⟩
   refine ite2 (fun z=>?_) (fun z=>?_)
   ·have z:q=0:=by
     have:=of_decide_eq_true z
     injection this with this
     omega
    subst z
    obtain ⟨x0,x1,x2,x3,x4,x5,rfl⟩:=Zhd hl
    have ex:=hx (by decide)
    subst ex
    rw[List.append_nil] at hf hr2
    rw[fit_0] at hf
    simp only[Bool.and_eq_true] at hf
    obtain ⟨f0,f1,f2,f3,f4,f5⟩:=hf
    have g0:=Xf f0
    have g1:=Xf f1
    have g2:=Xf f2
    have g3:=Xf f3
    have g4:=Xf f4
    obtain ⟨n0,rfl⟩:=Xi (show 0≤x0 by omega)
    obtain ⟨n1,rfl⟩:=Xi (show 0≤x1 by omega)
    obtain ⟨n2,rfl⟩:=Xi (show 0≤x2 by omega)
    obtain ⟨n3,rfl⟩:=Xi (show 0≤x3 by omega)
    obtain ⟨n4,rfl⟩:=Xi (show 0≤x4 by omega)
    exact ⟨_,rfl,_,rfl,L,r,M,s0,n0,n1,n2,n3,n4,x5,rfl,hL1,hr2,by omega,by omega,by omega,by omega,by omega,Xf f5,fun H' M' l s' ans e hL' f hl hln=>k H' M' l s' ans ((ns_0 _ _ _ _ _ _ _).trans e) hL' ((Fr.of s1).trans f) hl hln⟩
   ·have hq0:¬ q=0:=fun e=>z (by rw[e];rfl)
    cases hL1 with
    | @no dy sd hLL=>exact ⟨_,rfl,L,_,dy,_,_,rfl,hLL,T.Yp,T.Ze,rfl,_,rfl,iteT ⟨by show 1≤sizeLine;decide,told (-2) (sh2 hf hq0 rfl)⟩⟩
    | @yes dy p a sas v late sd hLL hS hW hll hLn=>
     refine ⟨_,rfl,L,_,dy,_,_,rfl,hLL,T.Yp,T.Ze,rfl,_,rfl,iteF ?_⟩
     have aft:∀ c,VbwsafNeutral.step ⟨some v,sd,late⟩ (Li.callOfQ q as x)=Vbwsaf.step ⟨some v,sd,late⟩ c→After T H1 p a sas v late sd c Q:=by
      intro c ec H' a' sas' v' lt ans l e hS' hW' hlt f hl hln
      obtain ⟨q1,q2⟩:=Uc (f _ _ (Y3 hLL hLn))
      exact k H' _ l _ ans (ec.trans e) (.yes q1 hS' hW' hlt q2) ((Fr.of s1).trans f) hl hln
     match q,hq with
     | 0,_=>exact absurd rfl hq0
     | 1,_=>
      obtain ⟨x0,rfl⟩:=Xx hl
      have ex:=hx (by decide)
      subst ex
      rw[List.append_nil] at hf hr2
      rw[fit_1] at hf
      have g0:=Xf hf
      obtain ⟨n0,rfl⟩:=Xi (show 0≤x0 by omega)
      exact ⟨_,rfl,_,_,rfl,rfl,.inl ⟨rfl,_,rfl,L,_,dy,_,_,rfl,hLL,T.Yp,T.Ze,rfl,_,rfl,p,a,sas,v,late,sd,r,n0,rfl,hS,hW,hll,hr2,by omega,aft _ (ns_1 _ _)⟩⟩
     | 2,_=>
      obtain ⟨x0,rfl⟩:=Xx hl
      have ex:=hx (by decide)
      subst ex
      rw[List.append_nil] at hf hr2
      rw[fit_2] at hf
      have g0:=Xf hf
      obtain ⟨n0,rfl⟩:=Xi (show 0≤x0 by omega)
      exact ⟨_,rfl,_,_,rfl,rfl,.inr (.inl ⟨rfl,_,rfl,L,_,dy,_,_,rfl,hLL,T.Yp,T.Ze,rfl,_,rfl,p,a,sas,v,late,sd,r,n0,rfl,hS,hW,hll,hr2,by omega,aft _ (ns_2 _ _)⟩)⟩
     | 3,_=>
      obtain ⟨x0,x1,x2,x3,rfl⟩:=Zdz hl
      rw[fit_3] at hf
      simp only[Bool.and_eq_true] at hf
      have g0:=Xf hf.1
      have g1:=Xf hf.2.1
      have g2:=Xf hf.2.2.1
      have g3:=Xf hf.2.2.2.1
      obtain ⟨n0,rfl⟩:=Xi (show 0≤x0 by omega)
      obtain ⟨n1,rfl⟩:=Xi (show 0≤x1 by omega)
      obtain ⟨n2,rfl⟩:=Xi (show 0≤x2 by omega)
      obtain ⟨n3,rfl⟩:=Xi (show 0≤x3 by omega)
      exact ⟨_,rfl,_,_,rfl,rfl,.inr (.inr (.inl ⟨rfl,_,rfl,L,_,dy,_,_,rfl,hLL,T.Yp,T.Ze,rfl,_,rfl,p,a,sas,v,late,sd,r,⟨n0,n1,n2,n3,x⟩,rfl,hS,hW,hll,hr2,(show n0≤3 by omega),(show 1≤n1∧n1≤40 by omega),(show 1≤n2∧n2≤100000 by omega),(show 1≤n3∧n3≤1000 by omega),of_decide_eq_true hf.2.2.2.2.1,hf.2.2.2.2.2,aft _ (ns_3 _ _ _ _ _ _)⟩))⟩
     | 4,_=>
      obtain ⟨x0,rfl⟩:=Xx hl
      have ex:=hx (by decide)
      subst ex
      rw[List.append_nil] at hf hr2
      rw[fit_4] at hf
      have g0:=Xf hf
      obtain ⟨n0,rfl⟩:=Xi (show 0≤x0 by omega)
      exact ⟨_,rfl,_,_,rfl,rfl,.inr (.inr (.inr (.inl ⟨rfl,_,rfl,L,_,dy,_,_,rfl,hLL,T.Yp,T.Ze,rfl,_,rfl,p,a,sas,v,late,sd,r,n0,rfl,hS,hW,hll,hr2,by omega,aft _ (ns_4 _ _)⟩)))⟩
     | 5,_=>
      obtain ⟨x0,rfl⟩:=Xx hl
      have ex:=hx (by decide)
      subst ex
      rw[List.append_nil] at hf hr2
      rw[fit_5] at hf
      have g0:=Xf hf
      obtain ⟨n0,rfl⟩:=Xi (show 0≤x0 by omega)
      exact ⟨_,rfl,_,_,rfl,rfl,.inr (.inr (.inr (.inr (.inl ⟨rfl,_,rfl,L,_,dy,_,_,rfl,hLL,T.Yp,T.Ze,rfl,_,rfl,p,a,sas,v,late,sd,r,n0,rfl,hS,hW,hll,hr2,by omega,aft _ (ns_5 _ _)⟩))))⟩
     | 6,_=>
      obtain ⟨x0,rfl⟩:=Xx hl
      have ex:=hx (by decide)
      subst ex
      rw[List.append_nil] at hf hr2
      rw[fit_6] at hf
      have g0:=Xf hf
      obtain ⟨n0,rfl⟩:=Xi (show 0≤x0 by omega)
      exact ⟨_,rfl,_,_,rfl,rfl,.inr (.inr (.inr (.inr (.inr (.inl ⟨rfl,_,rfl,L,_,dy,_,_,rfl,hLL,T.Yp,T.Ze,rfl,_,rfl,p,a,sas,v,late,sd,r,n0,rfl,hS,hW,hll,hr2,by omega,aft _ (ns_6 _ _)⟩)))))⟩
     | 7,_=>
      obtain ⟨x0,rfl⟩:=Xx hl
      have ex:=hx (by decide)
      subst ex
      rw[List.append_nil] at hf hr2
      rw[fit_7] at hf
      have g0:=Xf hf
      obtain ⟨n0,rfl⟩:=Xi (show 0≤x0 by omega)
      exact ⟨_,rfl,_,_,rfl,rfl,.inr (.inr (.inr (.inr (.inr (.inr (.inl ⟨rfl,_,rfl,L,_,dy,_,_,rfl,hLL,T.Yp,T.Ze,rfl,_,rfl,p,a,sas,v,late,sd,r,n0,rfl,hS,hW,hll,hr2,by omega,aft _ (ns_7 _ _)⟩))))))⟩
     | 8,_=>
      obtain ⟨x0,rfl⟩:=Xx hl
      have ex:=hx (by decide)
      subst ex
      rw[List.append_nil] at hf hr2
      rw[fit_8] at hf
      have g0:=Xf hf
      obtain ⟨n0,rfl⟩:=Xi (show 0≤x0 by omega)
      exact ⟨_,rfl,_,_,rfl,rfl,.inr (.inr (.inr (.inr (.inr (.inr (.inr (.inl ⟨rfl,_,rfl,L,_,dy,_,_,rfl,hLL,T.Yp,T.Ze,rfl,_,rfl,p,a,sas,v,late,sd,r,n0,rfl,hS,hW,hll,hr2,by omega,aft _ (ns_8 _ _)⟩)))))))⟩
     | 9,_=>
      obtain ⟨x0,rfl⟩:=Xx hl
      have ex:=hx (by decide)
      subst ex
      rw[List.append_nil] at hf hr2
      rw[fit_9] at hf
      have g0:=Xf hf
      obtain ⟨n0,rfl⟩:=Xi (show 0≤x0 by omega)
      exact ⟨_,rfl,_,_,rfl,rfl,.inr (.inr (.inr (.inr (.inr (.inr (.inr (.inr (.inl ⟨rfl,_,rfl,L,_,dy,_,_,rfl,hLL,T.Yp,T.Ze,rfl,_,rfl,p,a,sas,v,late,sd,r,n0,rfl,hS,hW,hll,hr2,by omega,aft _ (ns_9 _ _)⟩))))))))⟩
     | 10,_=>
      obtain ⟨x0,x1,x2,rfl⟩:=Zhe hl
      have ex:=hx (by decide)
      subst ex
      rw[List.append_nil] at hf hr2
      rw[Zhq] at hf
      simp only[Bool.and_eq_true] at hf
      have g0:=Xf hf.1
      have g1:=Xf hf.2.1
      have g2:=Xf hf.2.2
      obtain ⟨n0,rfl⟩:=Xi (show 0≤x0 by omega)
      obtain ⟨n1,rfl⟩:=Xi (show 0≤x1 by omega)
      obtain ⟨n2,rfl⟩:=Xi (show 0≤x2 by omega)
      exact ⟨_,rfl,_,_,rfl,rfl,.inr (.inr (.inr (.inr (.inr (.inr (.inr (.inr (.inr (.inl ⟨rfl,_,rfl,L,_,dy,_,_,rfl,hLL,T.Yp,T.Ze,rfl,_,rfl,p,a,sas,v,late,sd,r,n0,n1,n2,rfl,hS,hW,hll,hr2,by omega,by omega,by omega,aft _ (ns_10 _ _ _ _)⟩)))))))))⟩
     | 11,_=>
      have e:=Z33 hl
      subst e
      have ex:=hx (by decide)
      subst ex
      rw[List.append_nil] at hf hr2
      exact ⟨_,rfl,_,_,rfl,rfl,.inr (.inr (.inr (.inr (.inr (.inr (.inr (.inr (.inr (.inr (.inl ⟨rfl,_,rfl,L,_,dy,_,_,rfl,hLL,T.Yp,T.Ze,rfl,_,rfl,p,a,sas,v,late,sd,r,rfl,hS,hW,hll,aft _ (ns_11 _)⟩))))))))))⟩
     | 12,_=>
      have e:=Z33 hl
      subst e
      have ex:=hx (by decide)
      subst ex
      rw[List.append_nil] at hf hr2
      exact ⟨_,rfl,_,_,rfl,rfl,.inr (.inr (.inr (.inr (.inr (.inr (.inr (.inr (.inr (.inr (.inr (.inl ⟨rfl,_,rfl,L,_,dy,_,_,rfl,hLL,T.Yp,T.Ze,rfl,_,rfl,p,a,sas,v,late,sd,r,rfl,hS,hW,hll,aft _ (ns_12 _)⟩)))))))))))⟩
     | 13,_=>
      have e:=Z33 hl
      subst e
      have ex:=hx (by decide)
      subst ex
      rw[List.append_nil] at hf hr2
      exact ⟨_,rfl,_,_,rfl,rfl,.inr (.inr (.inr (.inr (.inr (.inr (.inr (.inr (.inr (.inr (.inr (.inr (.inl ⟨rfl,_,rfl,L,_,dy,_,_,rfl,hLL,T.Yp,T.Ze,rfl,_,rfl,p,a,sas,v,late,sd,r,rfl,hS,hW,hll,aft _ (ns_13 _)⟩))))))))))))⟩
     | 14,_=>
      have e:=Z33 hl
      subst e
      have ex:=hx (by decide)
      subst ex
      rw[List.append_nil] at hf hr2
      exact ⟨_,rfl,_,_,rfl,rfl,.inr (.inr (.inr (.inr (.inr (.inr (.inr (.inr (.inr (.inr (.inr (.inr (.inr (.inl ⟨rfl,_,rfl,L,_,dy,_,_,rfl,hLL,T.Yp,T.Ze,rfl,_,rfl,p,a,sas,v,late,sd,r,rfl,hS,hW,hll,aft _ (ns_14 _)⟩)))))))))))))⟩
     | 15,_=>
      obtain ⟨x0,rfl⟩:=Xx hl
      have ex:=hx (by decide)
      subst ex
      rw[List.append_nil] at hf hr2
      rw[Zhp] at hf
      have g0:=Xf hf
      obtain ⟨n0,rfl⟩:=Xi (show 0≤x0 by omega)
      exact ⟨_,rfl,_,_,rfl,rfl,.inr (.inr (.inr (.inr (.inr (.inr (.inr (.inr (.inr (.inr (.inr (.inr (.inr (.inr (⟨rfl,_,rfl,L,_,dy,_,_,rfl,hLL,T.Yp,T.Ze,rfl,_,rfl,p,a,sas,v,late,sd,r,n0,rfl,hS,hW,hll,hr2,by omega,aft _ (ns_15 _ _)⟩))))))))))))))⟩
     | q+16,h=>exact absurd h (by omega)
end
end Pr
end
section
namespace Pr
open PySem PySem.Spec PyProof.Rows L2
open Vbwsaf (Input Deed Stay Window Cells State)
def endOf (i q:Nat) (x:List Int):Nat:=i+1+Li.wide q+(if q=3 then 1+x.length else 0)
structure Cut (l:List Int) (i q:Nat) (as x t:List Int):Prop where
 hq:q<16
 hl:as.length=Li.wide q
 hx:q≠3→x=[]
 at_:l[i]?=some (q:Int)
 rw_:q=3→l[i+5]?=some (x.length:Int)
 as_:(l.drop (i+1)).take (Li.wide q)=as
 xs_:q=3→(l.drop (i+6)).take x.length=x
 en:l.drop (endOf i q x)=t
 le:endOf i q x≤l.length
theorem Zb5 {l:List Int} {i:Nat} {a:Int} {r:List Int} (h:l.drop i=a::r):l[i]?=some a∧l.drop (i+1)=r:=by
 refine ⟨?_,?_⟩
 ·have:=congrArg (fun z:List Int=>z[0]?) h
  simpa [List.getElem?_drop] using this
 ·rw[← List.drop_drop,h]
  rfl
theorem Cut.of {l:List Int} {i q:Nat} {as x t:List Int} (h:Li.Ahead (l.drop i) q as x t):Cut l i q as x t:=by
 generalize e:l.drop i=z at h
 cases h with
 | plain hq h3 hl=>
  obtain ⟨e1,e2⟩:=Zb5 e
  have hlen:i+1+(as.length+t.length)=l.length∨l.length<i+1:=by
   have:=congrArg List.length e2
   rw[List.length_drop,List.length_append] at this
   omega
  have hi:=(List.getElem?_eq_some_iff.mp e1).1
  refine ⟨hq,hl,fun _=>rfl,e1,fun z=>absurd z h3,?_,fun z=>absurd z h3,?_,?_⟩
  ·rw[e2,← hl,List.take_left]
  ·unfold endOf
   rw[if_neg h3,Nat.add_zero,← List.drop_drop,e2,← hl,List.drop_left]
  ·unfold endOf
   rw[if_neg h3]
   omega
 | row hl=>
  obtain ⟨e1,e2⟩:=Zb5 (show l.drop i=(3:Int)::_ from e)
  have e3:l.drop (i+5)=(x.length:Int)::(x++t):=by
   rw[show i+5=(i+1)+4 by omega,← List.drop_drop,e2,← hl,List.drop_left]
  obtain ⟨e4,e5⟩:=Zb5 e3
  have hi:=(List.getElem?_eq_some_iff.mp e4).1
  have hlen:=congrArg List.length e5
  rw[List.length_drop,List.length_append] at hlen
  refine ⟨by decide,hl,fun z=>absurd rfl z,e1,fun _=>e4,?_,fun _=>?_,?_,?_⟩
  ·show (l.drop (i+1)).take 4=as
   rw[e2,← hl,List.take_left]
  ·rw[e5,List.take_left]
  ·show l.drop (i+1+4+(1+x.length))=t
   rw[show i+1+4+(1+x.length)=(i+5+1)+x.length by omega,← List.drop_drop,e5,List.drop_left]
  ·show i+1+4+(1+x.length)≤l.length
   omega
section
variable {P:Program} {w:World} {K:PySem.W.Frag} {mg:Str→Option Value} {base:Heap}
def Z8x (K:PySem.W.Frag):Sp:=fun vs H Q _=>∃ (c:Addr) (l:List Int) (i q:Nat) (as x t:List Int),vs=[.ref c,.int (i:Int)]∧SqL K H c (l.map V.int)∧Cut l i q as x t∧Q (.int ((i+1+Li.wide q:Nat):Int)) H
theorem Z3e (T:TX K mg):FnOk P w K mg base CX0 1 T.row_place.f T.row_place.d ["calls", "start"] (Z8x K):=by
 refine T.row_place.F.ok Z93 (fun vs H Q E h=>?_) (fun cdv A outer s H vs Q E hr h=>?_)
 ·obtain ⟨c,l,i,q,as,x,t,rfl,_⟩:=h
  rfl
 ·obtain ⟨c,l,i,q,as,x,t,rfl,hc,hC,k⟩:=h
  obtain ⟨kR,hKD,hRow⟩:=T.ranges
  refine ⟨_,(Z5 (Zc (pe_op Yx (pe_op Yx (pv 1) Z9) (Zu Y2 rfl T.b_len Jo (Z0 (Z87 hKD rfl T.m_RANGES (pe_ix Zj (pv 0) (pv 1) (fun _ _=>rfl)) (fun _ _=>rfl)) Z3))))),?_⟩
  obtain ⟨ar,vs,e1,e2,e3⟩:=hRow q hC.hq
  have lv:vs.length=Li.wide q:=by rw[Paired.length (Wg e3),Zem q hC.hq]
  have sqr:∀ {H:Hp},SqT K H ar vs:=fun {H}=>Z0d e2
  refine ⟨_,rfl,_,_,rfl,rfl,_,rfl,_,rfl,c,_,_,_,rfl,rfl,hc,U5 hC.at_,_,_,rfl,e1,ar,vs,rfl,.inr sqr,_,_,rfl,rfl,?_⟩
  show Q (.int ((i:Int)+1+(vs.length:Int))) H
  rw[show (i:Int)+1+(vs.length:Int)=((i+1+Li.wide q:Nat):Int) by omega]
  exact k
def Zaf (K:PySem.W.Frag):Sp:=fun vs H Q _=>∃ (c:Addr) (l:List Int) (i q:Nat) (as x t:List Int),vs=[.ref c,.int (i:Int)]∧SqL K H c (l.map V.int)∧Cut l i q as x t∧Q (.int ((endOf i q x:Nat):Int)) H
theorem Z4y (T:TX K mg):FnOk P w K mg base CX0 2 T.call_end.f T.call_end.d ["calls", "start"] (Zaf K):=by
 refine T.call_end.F.ok Z4f (fun vs H Q E h=>?_) (fun cdv A outer s H vs Q E hr h=>?_)
 ·obtain ⟨c,l,i,q,as,x,t,rfl,_⟩:=h
  rfl
 ·obtain ⟨c,l,i,q,as,x,t,rfl,hc,hC,k⟩:=h
  refine ⟨_,(Z4 (Zy (i:=2) Z4f.nd rfl (Or.inl rfl) (Zf (Z3e T) (hr.mono (by decide)) rfl T.row_place.m T.row_place.F.kp T.row_place.b .nil pass0 (Z0 (pv 0) (Z0 (pv 1) Z3))))
   (Z4 (ps_if (Uu (pc_kin T.kROWS rfl T.m_ROWS (pe_ix Zj (pv 0) (pv 1) (fun _ _=>rfl)))) (Z5 (Zc (pe_op Yx (pe_op Yx (pv 2) Z9) (pe_ix Zj (pv 0) (pv 2) (fun _ _=>rfl))))) Zp)
   (Z5 (Zc (pv 2))))),?_⟩
  refine ⟨_,rfl,_,rfl,c,l,i,q,as,x,t,rfl,hc,hC,?_⟩
  refine ⟨_,rfl,_,rfl,c,_,_,_,rfl,rfl,hc,U5 hC.at_,_,rfl,_,rfl,?_⟩
  have hk:(List.lookup (q:Int) [((3:Int),V.ref T.tROWS)]).isSome=decide (q=3):=by
   rw[List.lookup_cons]
   by_cases z:q=3
   ·subst z;rfl
   ·rw[show ((q:Int)==3)=false from beq_eq_false_iff_ne.mpr (by omega),decide_eq_false z];rfl
  rw[hk]
  by_cases z:q=3
  ·subst z
   refine iteT ?_
   refine ⟨_,rfl,_,_,rfl,rfl,_,rfl,_,rfl,c,_,_,_,rfl,rfl,hc,U5 (hC.rw_ rfl),_,_,rfl,rfl,?_⟩
   show Q (.int (((i+1+Li.wide 3:Nat):Int)+1+(x.length:Int))) H
   rw[show (((i+1+Li.wide 3:Nat):Int)+1+(x.length:Int))=((endOf i 3 x:Nat):Int) by unfold endOf;rw[if_pos rfl];omega]
   exact k
  ·rw[decide_eq_false z]
   refine iteF ?_
   have:endOf i q x=i+1+Li.wide q:=by unfold endOf;rw[if_neg z,Nat.add_zero]
   rw[this] at k
   exact ⟨_,rfl,k⟩
noncomputable def Z46 (K:PySem.W.Frag):Sp:=fun vs H Q _=>∃ (c:Addr) (l:List Int) (i q:Nat) (as x t:List Int),vs=[.ref c,.int (i:Int)]∧SqL K H c (l.map V.int)∧Cut l i q as x t∧x.length≤10∧∀ H' n,Same H H'→LI H' n (as++x)→Q (.ref n) H'
theorem Zha (nums:List Int) (j:Nat):cutV (nums.map V.int) (some ((j+1:Nat):Int)) (some (j:Int))=[]:=by
 unfold cutV
 rw[HT.Z4m,HT.Z4m]
 have:min j (nums.map V.int).length-min (j+1) (nums.map V.int).length=0:=by omega
 rw[this,List.take_zero]
theorem Z4x (T:TX K mg):FnOk P w K mg base CX0 3 T.call_numbers.f T.call_numbers.d ["calls", "start"] (Z46 K):=by
 refine T.call_numbers.F.ok Wy (fun vs H Q E h=>?_) (fun cdv A outer s H vs Q E hr h=>?_)
 ·obtain ⟨c,l,i,q,as,x,t,rfl,_⟩:=h
  rfl
 ·obtain ⟨c,l,i,q,as,x,t,rfl,hc,hC,hxl,k⟩:=h
  refine ⟨_,(Z4 (Zy (i:=2) Wy.nd rfl (Or.inl rfl) (Zf (Z3e T) (hr.mono (by decide)) rfl T.row_place.m T.row_place.F.kp T.row_place.b .nil pass0 (Z0 (pv 0) (Z0 (pv 1) Z3))))
   (Z5 (Zc (pe_op Z28 (Z0s Z7u (pv 0) (Z05 (pe_op Yx (pv 1) Z9)) (Z05 (pv 2))) (Z0s Z7u (pv 0) (Z05 (pe_op Yx (pv 2) Z9)) (Z05 (Zf (Z4y T) (hr.mono (by decide)) rfl T.call_end.m T.call_end.F.kp T.call_end.b .nil pass0 (Z0 (pv 0) (Z0 (pv 1) Z3))))))))),?_⟩
  have hle:=hC.le
  have hw:i+1+Li.wide q≤l.length:=by unfold endOf at hle;omega
  refine ⟨_,rfl,_,rfl,c,l,i,q,as,x,t,rfl,hc,hC,?_⟩
  have ec:cutV (l.map V.int) (some ((i:Int)+1)) (some ((i+1+Li.wide q:Nat):Int))=as.map V.int:=by
   rw[show ((i:Int)+1)=((i+1:Nat):Int) by omega,Zg4 l (i+1) (i+1+Li.wide q) (by omega) hw,show i+1+Li.wide q-(i+1)=Li.wide q by omega,hC.as_]
  refine ⟨_,rfl,_,rfl,_,_,rfl,rfl,_,rfl,_,rfl,_,rfl,c,_,rfl,hc,fun n1 hn1=>?_⟩
  have s1:=Same.new (o:=.lst (cutV (l.map V.int) (some ((i:Int)+1)) (some ((i+1+Li.wide q:Nat):Int)))) hn1
  have hc1:=s1.seq hc
  refine ⟨_,rfl,_,rfl,_,_,rfl,rfl,_,rfl,_,rfl,_,rfl,c,l,i,q,as,x,t,rfl,hc1,hC,_,rfl,c,_,rfl,hc1,fun n2 hn2=>?_⟩
  have ed:cutV (l.map V.int) (some (((i+1+Li.wide q:Nat):Int)+1)) (some ((endOf i q x:Nat):Int))=x.map V.int:=by
   rw[show (((i+1+Li.wide q:Nat):Int)+1)=((i+1+Li.wide q+1:Nat):Int) by omega]
   by_cases z:q=3
   ·subst z
    have ee:endOf i 3 x=i+6+x.length:=by unfold endOf;rw[if_pos rfl];show i+1+4+(1+x.length)=_;omega
    rw[ee] at hle ⊢
    show cutV (l.map V.int) (some ((i+6:Nat):Int)) _=_
    rw[Zg4 l (i+6) (i+6+x.length) (by omega) hle,show i+6+x.length-(i+6)=x.length by omega,hC.xs_ rfl]
   ·have ee:endOf i q x=i+1+Li.wide q:=by unfold endOf;rw[if_neg z,Nat.add_zero]
    rw[ee,Zha,hC.hx z]
    rfl
  have la:as.length≤6:=by
   rw[hC.hl]
   have:∀ q:Fin 16,Li.wide q≤6:=by decide
   exact this ⟨q,hC.hq⟩
  refine ⟨n1,n2,_,_,rfl,rfl,(Same.new hn2) _ _ Z2,Z2,(by rw[ec,ed,List.length_map,List.length_map,sizeLine_eq];omega),fun p hp=>?_⟩
  refine k _ p ((s1.trans (Same.new hn2)).trans (Same.new hp)) ?_
  show upd _ p _ p=_
  rw[Z2,ec,ed,List.map_append]
end
end Pr
end
section
namespace Pr
open PySem PySem.Spec PyProof.Rows L2
open Vbwsaf (Input Deed Stay Window Cells State)
def FzS (H H':Hp):Prop:=∀ b o u,H b=some (.frz o u)→H' b=some (.frz o u)
section
variable {P:Program} {w:World} {K:PySem.W.Frag} {mg:Str→Option Value} {base:Heap}
theorem Zef {H H':Hp} {c:Addr} {xs:List V} (hO:OnlyF H) (h:SqL K H c xs) (s:FzS H H'):SqL K H' c xs:=by
 have e:Same H H':=fun b o e=>by
  rcases hO b with q | ⟨ob,u,q⟩
  ·rw[q] at e;cases e
  ·rw[q] at e
   cases e
   exact s _ _ _ q
 exact e.seq h
theorem SeAt.nofrz {C CS:Addr} {H:Hp} {p:Addr} {a:Ad} {sas:List Addr} {v:Window Cells} {late:List (List Nat)} {seed:Int} (h:SeAt C CS H p a sas v late seed) {b:Addr} (hb:b∈mset p a sas) {o:Obj} {u:HO}:H b≠some (.frz o u):=by
 obtain ⟨dx,h1⟩:=h.ob
 obtain ⟨ks,h2,_⟩:=h.kp
 obtain ⟨cs,h4,_⟩:=h.sn
 have no:∀ {y:HO},H b=some y→(∀ o u,y≠.frz o u)→H b≠some (.frz o u):=fun e q z=>by
  rw[e] at z
  exact q _ _ (Option.some.inj z)
 rcases List.mem_cons.mp hb with rfl | hb
 ·exact no h1 (fun _ _ z=>nomatch z)
 rcases List.mem_cons.mp hb with rfl | hb
 ·exact no h.st.lst (fun _ _ z=>nomatch z)
 rcases List.mem_cons.mp hb with rfl | hb
 ·exact no h2 (fun _ _ z=>nomatch z)
 rcases List.mem_cons.mp hb with rfl | hb
 ·exact no h.lt (fun _ _ z=>nomatch z)
 rcases List.mem_cons.mp hb with rfl | hb
 ·exact no h4 (fun _ _ z=>nomatch z)
 obtain ⟨s,_,dy,h6⟩:=Z35 h.st hb
 exact no h6 (fun _ _ z=>nomatch z)
theorem LnAt.nofrz {T:TX K mg} {H:Hp} {L:Addr} {M:List Addr} {s:State} (h:LnAt T H L M s) {b:Addr} {o:Obj} {u:HO} (e:H b=some (.frz o u)):b ∉ M:=by
 cases h with
 | no h=>
  intro hm
  have:b=L:=by simpa using hm
  rw[this,h] at e
  cases e
 | yes h1 h2 h3 h4 h5=>exact fun hm=>h2.nofrz hm e
theorem LnAt.unfrz {T:TX K mg} {H:Hp} {L g:Addr} {M:List Addr} {s:State} (h:LnAt T H L M s) {o:Obj} {u:HO} (e:H g=some (.frz o u)):LnAt T (res H [g]) L M s:=by
 have nf:∀ {b:Addr} {y:HO},H b=some y→(∀ o u,y≠.frz o u)→res H [g] b=some y:=fun eb q=>Y3 eb (by
  simp only[List.mem_singleton]
  intro z
  rw[z,e] at eb
  exact q _ _ (Option.some.inj eb).symm)
 cases h with
 | no h=>exact .no (nf h (fun _ _ z=>nomatch z))
 | yes h1 h2 h3 h4 h5=>
  refine .yes (nf h1 (fun _ _ z=>nomatch z)) (SeAt.move h2 (fun b hb=>?_) fun b y eb _ hd=>nf eb (fun _ _ z=>by rw[z] at hd;exact hd)) h3 h4 h5
  have hbg:b ∉ [g]:=by
   simp only[List.mem_singleton]
   intro z
   exact h2.nofrz hb (z ▸ e)
  unfold res
  rw[if_neg hbg]
theorem Zg9 {q:Nat} {as x:List Int} (hl:as.length=Li.wide q) (hx:q≠3→x=[]) (h:VbwsafNeutral.asked1 (Li.callOfQ q as x)=true):x.length≤10:=by
 by_cases z:q=3
 ·subst z
  obtain ⟨a,b,c,d,rfl⟩:=Zdz hl
  have h:(VbwsafNeutral.whole60 a&&(VbwsafNeutral.whole60 b&&(VbwsafNeutral.whole60 c&&(VbwsafNeutral.whole60 d&&(decide (x.length≤10)&&(x.all (fun (z:Int)=>VbwsafNeutral.whole60 z)))))))=true:=h
  simp only[Bool.and_eq_true,decide_eq_true_eq] at h
  exact h.2.2.2.2.1
 ·rw[hx z];exact Nat.zero_le _
abbrev told' (s:State) (cs:List (List (List Int))):List Int:=PyFlat.told (PyFlat.played VbwsafNeutral.step s cs)
theorem Ze6 (s:State) (c:List (List Int)) (cs:List (List (List Int))) {s':State} {ans:List Int} (e:VbwsafNeutral.step s c=(s',ans)):told' s (c::cs)=((ans.length:Int)::ans)++told' s' cs:=by
 unfold told' PyFlat.told
 show ((VbwsafNeutral.step s c).2::PyFlat.played VbwsafNeutral.step (VbwsafNeutral.step s c).1 cs).flatMap _=_
 rw[e,List.flatMap_cons]
def AInv (T:TX K mg) (H:Hp) (c L g:Addr) (l:List Int) (σ:L2.St) (H':Hp):Prop:=∃ (i n f:Nat) (u:Option V) (M:List Addr) (s:State) (cs:List (List (List Int))) (gl:List Int),σ=[some (.ref c),some (.ref L),some (.ref g),some (.int (i:Int)),u]∧i≤l.length∧FzS H H'∧LnAt T (res H' [g]) L M s∧LI H' g gl ∧
 PyFlat.calls PyVbwsaf.shape f (l.drop i)=some cs∧n+cs.length≤200∧gl.length≤n*1001∧gl++told' s cs=PyVbwsaf.answers l∧∀ c∈cs,VbwsafNeutral.asked1 c=true
noncomputable def leftV (l:List Int):Option (Option V)→Nat
 | some (some (V.int i))=>l.length-i.toNat
 | _=>0
def leftOf (l:List Int) (σ:L2.St):Nat:=leftV l σ[3]?
noncomputable def Z2m (K:PySem.W.Frag):Sp:=fun vs H Q _=>∃ (c:Addr) (l:List Int),vs=[.ref c]∧SqL K H c (l.map V.int)∧OnlyF H∧PyVbwsaf.answers_asked l=true∧l.length≤1000000∧∀ H' p,LI H' p (PyVbwsaf.answers l)→Q (.ref p) H'
theorem Zd9 (T:TX K mg):FnOk P w K mg base CX0 14 T.answers.f T.answers.d ["calls"] (Z2m K):=by
 refine T.answers.F.ok Jr (fun vs H Q E h=>?_) (fun cdv A outer s H vs Q E hr h=>?_)
 ·obtain ⟨c,l,rfl,_⟩:=h
  rfl
 ·obtain ⟨c,l,rfl,hc,hO,ha,hll,k⟩:=h
  refine ⟨_,(Z4 (Zy (i:=1) Jr.nd rfl (Or.inl rfl) (Zgt T.cLine_k (Z9j T) (hr.mono (by decide)) rfl T.cLine_m T.Line_init.b .nil pass0))
   (Z4 (Zy (i:=2) Jr.nd rfl (Or.inl rfl) (Zv Z3))
   (Z4 (Zy (i:=3) Jr.nd rfl (Or.inl rfl) Z9)
   (Z4 (Zgo PassesOwn.never (Zr op_lt (pv 3) (Zu Y2 rfl T.b_len Jo (Z0 (pv 0) Z3)) (Y8 _)) (Z4 (ps_lock (Zy (i:=4) Jr.nd rfl (Or.inl rfl) (Zf (Zf4 T) (hr.mono (by decide)) rfl T.answer.m T.answer.F.kp T.answer.b .nil pass0 (Z0 (pv 1) (Z0 (pe_ix Zj (pv 0) (pv 3) (fun _ _=>rfl)) (Z0 (Zf (Z4x T) (hr.mono (by decide)) rfl T.call_numbers.m T.call_numbers.F.kp T.call_numbers.b .nil pass0 (Z0 (pv 0) (Z0 (pv 3) Z3))) Z3))))))
   (Z4 (Zx (pe_bm PySem.F.plainAttrs_list PySem.F.slot_list_append PySem.F.type_list_append Z53 (pv 2) (Z0 (Zu Y2 rfl T.b_len Jo (Z0 (pv 4) Z3)) Z3)))
   (Z4 (Zx (pe_bm PySem.F.plainAttrs_list PySem.F.slot_list_extend PySem.F.type_list_extend Ux (pv 2) (Z0 (pv 4) Z3)))
   (Z5 (Zy (i:=3) Jr.nd rfl (Or.inl rfl) (Zf (Z4y T) (hr.mono (by decide)) rfl T.call_end.m T.call_end.F.kp T.call_end.b .nil pass0 (Z0 (pv 0) (Z0 (pv 3) Z3)))))))))
   (Z5 (Zc (pv 2))))))),?_⟩
  obtain ⟨cs0,hcs0,ha1,ha2⟩:∃ cs,PyFlat.calls PyVbwsaf.shape l.length l=some cs∧cs.length≤200∧∀ c∈cs,VbwsafNeutral.asked1 c=true:=by
   unfold PyVbwsaf.answers_asked at ha
   rw[Li.Zce] at ha
   cases e:PyFlat.calls PyVbwsaf.shape l.length l with
   | none=>rw[e] at ha;cases ha
   | some cs=>
    rw[e] at ha
    have ha:(decide (cs.length≤200)&&(cs.all VbwsafNeutral.asked1&&(decide (1≤cs.length)&&decide (cs.length≤200))))=true:=ha
    simp only[Bool.and_eq_true,decide_eq_true_eq,List.all_eq_true] at ha
    exact ⟨cs,rfl,ha.1,ha.2.1⟩
  have eans:PyVbwsaf.answers l=told' Vbwsaf.start cs0:=by
   unfold PyVbwsaf.answers
   rw[Li.Zce,hcs0]
   rfl
  intro L dy hL hdy hLd
  refine ⟨L,dy,rfl,Z2,rfl,?_⟩
  refine ⟨Nat.zero_le _,fun g hg=>?_⟩
  have fz0:FzS H (upd (upd (upd (upd H dy (.own L)) L (.ins T.cLine dy [])) L (.ins T.cLine dy [("session",.non)])) g (.lst [])):=fun b o u e=>by
   have b1:b≠L:=Z6 e hL
   have b2:b≠dy:=Z6 e hdy
   have b3:b≠g:=fun z=>by
    rw[z] at b1 b2 e
    rw[Z8 b1,Z8 b1,Z8 b2,e] at hg
    cases hg
   rw[Z8 b3,Z8 b1,Z8 b1,Z8 b2]
   exact e
  have hLg:L≠g:=fun z=>by rw[← z,Z2] at hg;cases hg
  have hgH:H g=none:=by
   cases e:H g with
   | none=>rfl
   | some y=>
    have b1:g≠L:=hLg.symm
    have b2:g≠dy:=Z6 e hdy
    rw[Z8 b1,Z8 b1,Z8 b2,e] at hg
    cases hg
  refine Zge (AInv T H c L g l) (fun σ _=>leftOf l σ) ⟨0,0,l.length,none,[L],Vbwsaf.start,cs0,[],rfl,Nat.zero_le _,fz0,.no (Y3 (by rw[Z8 hLg];exact Z2) (by simpa using hLg)),Z2,hcs0,by omega,Nat.zero_le _,eans.symm,ha2⟩ ?_ ?_
  ·rintro σ H1 ⟨i,n,f,u,M,s0,cs,gl,rfl,hi,fz1,hL1,hg1,hcs,hn,hgl,htold,hask⟩
   have hc1:=Zef hO hc fz1
   refine ⟨_,rfl,_,rfl,c,_,rfl,.inl hc1,_,_,rfl,rfl,_,rfl,?_⟩
   refine ite2 (fun z=>?_) (fun z=>?_)
   ·have z:i<l.length:=by
     have:=of_decide_eq_true z
     rw[List.length_map] at this
     omega
    rcases Li.Z7b hcs with ⟨e,_⟩ | ⟨q,as,x,t,f',cs',hAh,ecs,hcs'⟩
    ·have:=congrArg List.length e
     rw[List.length_drop] at this
     have:l.length-i=0:=this
     omega
    ·have hC:=Cut.of hAh
     subst ecs
     have hxl:=Zg9 hC.hl hC.hx (hask _ (List.mem_cons_self ..))
     refine ⟨g,_,hg1,trivial,fun og=>?_⟩
     have sl:Same (res H1 [g]) (upd H1 g (.frz og (.lst (gl.map V.int)))):=fun b o e=>by
      obtain ⟨e1,e2⟩:=Uc e
      rw[Z8 (by simpa using e2)]
      exact e1
     have hL2:=hL1.same sl
     have fz2:FzS H (upd H1 g (.frz og (.lst (gl.map V.int)))):=fun b o u e=>by
      rw[Z8 (Z6 e hgH)]
      exact fz1 b o u e
     have hc2:=Zef hO hc fz2
     refine ⟨_,rfl,_,rfl,_,rfl,c,_,_,_,rfl,rfl,hc2,U5 hC.at_,_,rfl,_,rfl,c,l,i,q,as,x,t,rfl,hc2,hC,hxl,fun H3 n3 s3 hn3=>?_⟩
     refine ⟨L,n3,M,s0,q,as,x,rfl,hC.hq,hC.hl,hC.hx,hxl,hn3,hL2.same s3,fun H4 M4 l4 s4 ans es hL4 f4 hl4 hal=>?_⟩
     have hg3:=s3 _ _ (Z2 (H:=H1) (a:=g) (o:=.frz og (.lst (gl.map V.int))))
     have hg4:=(Uc (f4 _ _ (Y3 hg3 ((hL2.same s3).nofrz hg3)))).1
     refine ⟨hg4,?_⟩
     obtain ⟨hl5,hl6⟩:=Uc hl4
     have hlg:l4≠g:=ne_of hl5 hg4 (fun z=>nomatch z)
     have hglen:gl.length≤200*1001:=Nat.le_trans hgl (Nat.mul_le_mul_right _ (by omega))
     refine ⟨_,rfl,.inl ⟨rfl,_,SqL.of Z2⟩,_,rfl,l4,_,rfl,.inl (SqL.of (by rw[Z8 hlg];exact hl5)),g,_,_,rfl,rfl,Z2,by rw[List.length_map,sizeLine_eq];omega,?_⟩
     rw[Z7h]
     refine ⟨_,rfl,.inl ⟨rfl,_,SqL.of Z2⟩,_,rfl,g,l4,_,_,rfl,rfl,Z2,(by rw[Z8 hlg];exact hl5),by rw[List.length_append,List.length_map,List.length_map,sizeLine_eq];show _+1+_≤_;omega,?_⟩
     rw[Z7h]
     have fz4:FzS H H4:=fun b o u e=>by
      have e2:=s3 _ _ (fz2 b o u e)
      exact (Uc (f4 _ _ (Y3 e2 ((hL2.same s3).nofrz e2)))).1
     have fz5:∀ y,FzS H (upd H4 g y):=fun y b o u e=>by
      rw[Z8 (Z6 e hgH)]
      exact fz4 b o u e
     refine ⟨_,rfl,_,rfl,c,l,i,q,as,x,t,rfl,Zef hO hc (fz5 _),hC,?_⟩
     have hle:=hC.le
     have hgt:i<endOf i q x:=by unfold endOf;omega
     refine ⟨⟨endOf i q x,n+1,f',_,M4,s4,cs',gl++((ans.length:Int)::ans),rfl,hle,fz5 _,?_,?_,by rw[hC.en];exact hcs',?_,?_,?_,fun c hc=>hask c (List.mem_cons_of_mem _ hc)⟩,?_⟩
     ·rw[Z04 (by simp)]
      exact hL4.unfrz hg4
     ·show upd _ g _ g=_
      rw[Z2,List.map_append,List.length_map,List.append_assoc]
      rfl
     ·rw[List.length_cons] at hn;omega
     ·rw[List.length_append,List.length_cons,Nat.succ_mul];omega
     ·rw[Ze6 _ _ _ es] at htold
      rw[List.append_assoc]
      exact htold
     ·show l.length-((endOf i q x:Nat):Int).toNat<l.length-((i:Nat):Int).toNat
      rw[Int.toNat_natCast,Int.toNat_natCast]
      omega
   ·have z:¬ i<l.length:=fun q=>z (decide_eq_true (by rw[List.length_map];omega))
    have hd0:l.drop i=[]:=List.drop_eq_nil_of_le (by omega)
    rcases Li.Z7b hcs with ⟨_,e⟩ | ⟨q,as,x,t,f',cs',hAh,_,_⟩
    ·rw[e] at htold
     have htold:gl++[]=PyVbwsaf.answers l:=htold
     rw[List.append_nil] at htold
     rw[htold] at hg1
     exact ⟨_,rfl,k H1 g hg1⟩
    ·rw[hd0] at hAh
     cases hAh
  ·rintro σ H1 Q1 Q2 hq ⟨x,h1,y,h2,p,ys,e1,h3,i,j,e2,e3,kk,e4,h4⟩
   exact ⟨x,h1,y,h2,p,ys,e1,h3,i,j,e2,e3,kk,e4,hq _ _ h4⟩
end
end Pr
end
section
namespace Pr
open PySem PySem.Spec PyProof.Rows L2
section
variable {K:PySem.W.Frag} {h:Heap} {mg:Str→Option Value}
def gf_mk (X:K.In h) (G:h.Ns mainGlobals mg) {x:Str} {st:Stmt} {ps:List Str} {f:Addr} {oc:Value} {od an:Option Addr} {osl:Array (Option Value)} {kV doc pm cdv ct:Value} (a:PySem.W.nsIn K mainGlobals x=some (some (.ref f)))
  (l:K.lookup f=some ⟨oc,od,.func (PySem.W.fnOf x x (defArgs st) (defBody st) (Z7 st) .none kV doc pm an cdv ct),osl⟩) (c:PySem.W.codeIn K cdv x=true) (k:PySem.W.keepIn K (.ref f)=true)
  (hb:∀ (kV doc pm:Value) (an:Option Addr) (cdv ct:Value) (us:List Value),us.length=ps.length→bindArgs (PySem.W.fnOf x x (defArgs st) (defBody st) (Z7 st) .none kV doc pm an cdv ct) ⟨us,[]⟩=pure (ps.zip us)):GF K mg x st ps:=
 { f:=f,d:=_,F:=Zc8 l c k,b:=(Zc8 l c k).binds hb,m:=PySem.W.mg_of X G a }
def mf_mk {C:Addr} {x qual:Str} {st:Stmt} {ps:List Str} {f:Addr} {oc:Value} {od an:Option Addr} {osl:Array (Option Value)} {kV doc pm cdv ct:Value} (a:PySem.W.findIn K (.ref C) x=some (some (.ref f))) (i:PySem.W.isFn K (.ref f)=true)
  (l:K.lookup f=some ⟨oc,od,.func (PySem.W.fnOf x qual (defArgs st) (defBody st) (Z7 st) .none kV doc pm an cdv ct),osl⟩) (c:PySem.W.codeIn K cdv qual=true) (k:PySem.W.keepIn K (.ref f)=true)
  (hb:∀ (kV doc pm:Value) (an:Option Addr) (cdv ct:Value) (us:List Value),us.length=ps.length→bindArgs (PySem.W.fnOf x qual (defArgs st) (defBody st) (Z7 st) .none kV doc pm an cdv ct) ⟨us,[]⟩=pure (ps.zip us)):MF K C x qual st ps:=
 { f:=f,d:=_,F:=Zc8 l c k,b:=(Zc8 l c k).binds hb,M:=⟨a,i,k⟩ }
theorem Zdv:∀ (kV doc pm:Value) (an:Option Addr) (cdv ct:Value) (us:List Value),us.length=(["calls"]:List Str).length→bindArgs (PySem.W.fnOf "answers" "answers" (defArgs Z02) (defBody Z02) (Z7 Z02) .none kV doc pm an cdv ct) ⟨us,[]⟩=pure ((["calls"]:List Str).zip us):=fun _ _ _ _ _ _ us hl=>match us,hl with | [_],_=>rfl
theorem kc_mk (X:K.In h) (G:h.Ns mainGlobals mg) {n:Str} {i:Int} {t:_} (e:PySem.W.nsIn K mainGlobals n=some (some (.int i t))):∃ t,mg n=some (.int i t):=⟨t,PySem.W.mg_of X G e⟩
theorem na_mk {C:Addr} {f:Str} (e:PySem.W.findIn K (.ref C) f=some none):NoAttr K C f:=e
theorem mk_of {C:Addr} {q:Str} {st:Stmt} {ps:List Str} (m:MF K C "__init__" q st ps) (h1:PySem.W.makesIn K C=true) (h2:PySem.W.keepIn K (.ref C)=true):Mk K C m.f:=⟨h1,m.M.at_,m.M.fn,h2⟩
theorem rg_mk (X:K.In h) (G:h.Ns mainGlobals mg) {a:Addr} (n:PySem.W.nsIn K mainGlobals "RANGES" = some (some (.ref a))) (r:rngRead K a=some ranges):∃ a,mg "RANGES" = some (.ref a)∧rngRead K a=some ranges:=⟨a,PySem.W.mg_of X G n,r⟩
theorem rw_mk (X:K.In h) (G:h.Ns mainGlobals mg) {a t:Addr} (n:PySem.W.nsIn K mainGlobals "ROWS" = some (some (.ref a))) (r:kdRead K a=some [(3,.ref t)]) (q:ktRead K t=some [.int 4,.int (-1000000),.int 1000000]):∃ a t,mg "ROWS" = some (.ref a)∧kdRead K a=some [(3,.ref t)]∧ktRead K t=some [.int 4,.int (-1000000),.int 1000000]:=⟨a,t,PySem.W.mg_of X G n,r,q⟩
theorem lc1 {M:List Value→Prop} (h:∀ a,M [a]) (us:List Value) (hl:us.length=1):M us:=by
 rcases us with _|⟨a,_|_⟩
 all_goals first
  |exact h a
  |(simp at hl)
theorem lc2 {M:List Value→Prop} (h:∀ a b,M [a,b]) (us:List Value) (hl:us.length=2):M us:=by
 rcases us with _|⟨a,_|⟨b,_|_⟩⟩
 all_goals first
  |exact h a b
  |(simp at hl)
theorem lc3 {M:List Value→Prop} (h:∀ a b c,M [a,b,c]) (us:List Value) (hl:us.length=3):M us:=by
 rcases us with _|⟨a,_|⟨b,_|⟨c,_|_⟩⟩⟩
 all_goals first
  |exact h a b c
  |(simp at hl)
theorem lc4 {M:List Value→Prop} (h:∀ a b c d,M [a,b,c,d]) (us:List Value) (hl:us.length=4):M us:=by
 rcases us with _|⟨a,_|⟨b,_|⟨c,_|⟨d,_|_⟩⟩⟩⟩
 all_goals first
  |exact h a b c d
  |(simp at hl)
theorem lc7 {M:List Value→Prop} (h:∀ a b c d e f g,M [a,b,c,d,e,f,g]) (us:List Value) (hl:us.length=7):M us:=by
 rcases us with _|⟨a,_|⟨b,_|⟨c,_|⟨d,_|⟨e,_|⟨f,_|⟨g,_|_⟩⟩⟩⟩⟩⟩⟩
 all_goals first
  |exact h a b c d e f g
  |(simp at hl)
theorem do_mk (X:K.In h) (G:h.Ns mainGlobals mg) {a f1 f2 f3 f4 f5 f6 f7 f8 f9 f10 f11 f12 f13 f14 f15:Addr} (n:PySem.W.nsIn K mainGlobals "DOERS" = some (some (.ref a))) (n1:PySem.W.nsIn K mainGlobals "join_player" = some (some (.ref f1))) (n2:PySem.W.nsIn K mainGlobals "leave_player" = some (some (.ref f2))) (n3:PySem.W.nsIn K mainGlobals "take_one" = some (some (.ref f3))) (n4:PySem.W.nsIn K mainGlobals "make_ticks" = some (some (.ref f4))) (n5:PySem.W.nsIn K mainGlobals "lock_ticks" = some (some (.ref f5))) (n6:PySem.W.nsIn K mainGlobals "resize_window" = some (some (.ref f6))) (n7:PySem.W.nsIn K mainGlobals "tell_world" = some (some (.ref f7))) (n8:PySem.W.nsIn K mainGlobals "tell_counts" = some (some (.ref f8))) (n9:PySem.W.nsIn K mainGlobals "tell_deeds" = some (some (.ref f9))) (n10:PySem.W.nsIn K mainGlobals "tell_fate" = some (some (.ref f10))) (n11:PySem.W.nsIn K mainGlobals "tell_snapshots" = some (some (.ref f11))) (n12:PySem.W.nsIn K mainGlobals "tell_now" = some (some (.ref f12))) (n13:PySem.W.nsIn K mainGlobals "tell_stays" = some (some (.ref f13))) (n14:PySem.W.nsIn K mainGlobals "tell_ready" = some (some (.ref f14))) (n15:PySem.W.nsIn K mainGlobals "tell_plain" = some (some (.ref f15))) (r:kdRead K a=some [(1,.ref f1),(2,.ref f2),(3,.ref f3),(4,.ref f4),(5,.ref f5),(6,.ref f6),(7,.ref f7),(8,.ref f8),(9,.ref f9),(10,.ref f10),(11,.ref f11),(12,.ref f12),(13,.ref f13),(14,.ref f14),(15,.ref f15)]):∃ a,mg "DOERS" = some (.ref a)∧Doers K mg a:=⟨a,PySem.W.mg_of X G n,f1,f2,f3,f4,f5,f6,f7,f8,f9,f10,f11,f12,f13,f14,f15,r,PySem.W.mg_of X G n1,PySem.W.mg_of X G n2,PySem.W.mg_of X G n3,PySem.W.mg_of X G n4,PySem.W.mg_of X G n5,PySem.W.mg_of X G n6,PySem.W.mg_of X G n7,PySem.W.mg_of X G n8,PySem.W.mg_of X G n9,PySem.W.mg_of X G n10,PySem.W.mg_of X G n11,PySem.W.mg_of X G n12,PySem.W.mg_of X G n13,PySem.W.mg_of X G n14,PySem.W.mg_of X G n15⟩
theorem none_mg (X:K.In h) (G:h.Ns mainGlobals mg) {n:Str} (e:PySem.W.nsIn K mainGlobals n=some none):mg n=none:=PySem.W.mg_none_of X G e
theorem fin_top {P:Program} {w:World} {fa:Addr} (T:TX K mg) (hfa:mg "answers" = some (.ref fa)):∃ fd:FuncData,(∀ (s:Shared) (us:List Value),us.length=(["calls"]:List Str).length→BindsTo s fd ⟨us,[]⟩ ((["calls"]:List Str).zip us)) ∧
  ∀ base:Heap,K.In base→base.Ns mainGlobals mg→FnOk P w K mg base CX0 14 fa fd ["calls"] (Z2m K):=by
 have e:=hfa.symm.trans T.answers.m
 cases e
 obtain ⟨oc,od,kV,doc,pm,an,cdv,ct,osl,ed,_,_⟩:=T.answers.F.ex
 refine ⟨T.answers.d,fun s us hu=>?_,fun base _ _=>Zd9 T⟩
 rw[ed]
 exact .of_eq (Zdv _ _ _ _ _ _ us hu)
theorem fin_top2 {P:Program} {w:World} {fa:Addr} (X:K.In h) (G:h.Ns mainGlobals mg) (hfa:mg "answers" = some (.ref fa)) (rg:∃ a,mg "RANGES" = some (.ref a)∧rngRead K a=some ranges) (rw_:∃ a t,mg "ROWS" = some (.ref a)∧kdRead K a=some [(3,.ref t)]∧ktRead K t=some [.int 4,.int (-1000000),.int 1000000]) (dd:∃ a,mg "DOERS" = some (.ref a)∧Doers K mg a)
  (T:∀ aR,mg "RANGES" = some (.ref aR)→rngRead K aR=some ranges→∀ aW tW,mg "ROWS" = some (.ref aW)→kdRead K aW=some [(3,.ref tW)]→ktRead K tW=some [.int 4,.int (-1000000),.int 1000000]→∀ aD,mg "DOERS" = some (.ref aD)→Doers K mg aD→TX K mg):∃ fd:FuncData,(∀ (s:Shared) (us:List Value),us.length=(["calls"]:List Str).length→BindsTo s fd ⟨us,[]⟩ ((["calls"]:List Str).zip us)) ∧
  ∀ base:Heap,K.In base→base.Ns mainGlobals mg→FnOk P w K mg base CX0 14 fa fd ["calls"] (Z2m K):=by
 obtain ⟨aR,mR,rR⟩:=rg
 obtain ⟨aW,tW,mW,rW,qW⟩:=rw_
 obtain ⟨aD,mD,rD⟩:=dd
 exact fin_top (T aR mR rR aW tW mW rW qW aD mD rD) hfa
end
end Pr
end
namespace PySem.W.Fast
def tw10067811855896527528:=0
def tw10074601573803263177:=0
def tw10200957287760593553:=0
def tw10348487605814355356:=0
def tw10467462045235994258:=0
def tw1048345714126089184:=0
def tw10512908328834034544:=0
def tw10528845675280514003:=0
def tw10584171866141697684:=0
def tw10611854455137624390:=0
def tw10717474625321213243:=0
def tw10757619109358597256:=0
def tw10866420479981978843:=0
def tw11053169331049177867:=0
def tw11070587804872389975:=0
def tw11250200981505092839:=0
def tw11443629628688371100:=0
def tw11461939343476787626:=0
def tw11537081183507475445:=0
def tw11561449902310547329:=0
def tw11618756908380690250:=0
def tw11809023138291918693:=0
def tw11863313534100418047:=0
def tw11882443293007298675:=0
def tw1206907513429822087:=0
def tw12071592019567821347:=0
def tw12102874197757470162:=0
def tw12104704143969715529:=0
def tw12148784589458172549:=0
def tw12246957049693073340:=0
def tw12352185124292166052:=0
def tw1237234814154404262:=0
def tw12387499385848271917:=0
def tw12402430621943944985:=0
def tw12473202240651737313:=0
def tw12549263393422404100:=0
def tw12648464807877851488:=0
def tw12655032121226469319:=0
def tw12655520675829377956:=0
def tw12682758364268148511:=0
def tw12828202150621183458:=0
def tw1287861487609037005:=0
def tw12899814648881642670:=0
def tw12921812960949648277:=0
def tw12966543343982483994:=0
def tw1323477187629427263:=0
def tw13368109927804324489:=0
def tw13387039093334993578:=0
def tw13400192112149198402:=0
def tw1350207223761326436:=0
def tw13644287611725239461:=0
def tw13738564682792565576:=0
def tw13807045051076719987:=0
def tw13898027951473140301:=0
def tw13972428166663684945:=0
def tw14007613993106204616:=0
def tw14030489043756527611:=0
def tw14164919763719817478:=0
def tw1419638677321480084:=0
def tw14260823597864069797:=0
def tw14362906490700828833:=0
def tw14511601170486526944:=0
def tw14605643226400230534:=0
def tw14621285563583929501:=0
def tw14647418242547025641:=0
def tw14788328309571290519:=0
def tw14815471625537071636:=0
def tw14822899598306479859:=0
def tw14847843896784476391:=0
def tw14962141315865592500:=0
def tw14973225686589563659:=0
def tw14994005325189884032:=0
def tw15207385993413648809:=0
def tw15227722499467177420:=0
def tw15244147232107379537:=0
def tw15270581991341373502:=0
def tw15638445019169324529:=0
def tw15870576299477731013:=0
def tw15893391340291303459:=0
def tw16003990486940051710:=0
def tw16275238950119976399:=0
def tw16382636521904296361:=0
def tw16502329582114502937:=0
def tw16524294820040907507:=0
def tw16572279069980984853:=0
def tw16752158200947015456:=0
def tw1710577839798754682:=0
def tw17235489661942836119:=0
def tw17263642272953252281:=0
def tw1733616408167466293:=0
def tw17385504501640612838:=0
def tw17445953406768031641:=0
def tw17471594686570112054:=0
def tw17534798025342024642:=0
def tw17548570602066313440:=0
def tw17834851957755861598:=0
def tw1792878165497723858:=0
def tw17986009939693183516:=0
def tw18031630288861832579:=0
def tw18268138697887487910:=0
def tw18271959952195443105:=0
def tw18384684141831442144:=0
def tw1924903185104487823:=0
def tw1988713450348460594:=0
def tw2069996513030856595:=0
def tw2174735207756616944:=0
def tw2343179690764458662:=0
def tw2367262932011923637:=0
def tw2390667797982657938:=0
def tw24046806765825803:=0
def tw2456959014486600229:=0
def tw2464745063100073027:=0
def tw2525279716606581380:=0
def tw2582558138238138678:=0
def tw2789664731907324524:=0
def tw2807948118314089306:=0
def tw3048602737324185072:=0
def tw3099530737068513928:=0
def tw312692714561183599:=0
def tw3187722235414422215:=0
def tw3210841881466675155:=0
def tw3251421979479956385:=0
def tw3268764583614406456:=0
def tw3523446016010313080:=0
def tw3530224243534041517:=0
def tw3613777713968994160:=0
def tw37058921837314665:=0
def tw3861066325994595802:=0
def tw3951603399684548056:=0
def tw3969345116157379468:=0
def tw4160221267990068584:=0
def tw4217180697070383708:=0
def tw4421423086603339572:=0
def tw4605773684468372147:=0
def tw4617112079357949002:=0
def tw4811469527785486133:=0
def tw5089369397884050467:=0
def tw5173077130327722669:=0
def tw5220964718710251037:=0
def tw5293994404095254349:=0
def tw5305948452005674393:=0
def tw5315848934968332681:=0
def tw5324116544247962028:=0
def tw5432599544613894140:=0
def tw5628237327706139604:=0
def tw5678067073561606028:=0
def tw5747636840573254986:=0
def tw575225622515059556:=0
def tw5818426074793297392:=0
def tw5835658449733782357:=0
def tw5894366619391309162:=0
def tw5941571572679967523:=0
def tw6002764060174346714:=0
def tw6033874539614679327:=0
def tw6050005843953596368:=0
def tw6054189180950129561:=0
def tw6107144077419840657:=0
def tw6368531602648054488:=0
def tw6379932555484508517:=0
def tw6381311708837270417:=0
def tw6412461066590990843:=0
def tw6589311489580160329:=0
def tw6734227017650582546:=0
def tw674518404311535740:=0
def tw6996196777942496735:=0
def tw707449801694898245:=0
def tw7173487848607746390:=0
def tw7322694307884908563:=0
def tw7371275295812188560:=0
def tw7404409976951254523:=0
def tw7458679109439372268:=0
def tw7570684115122700603:=0
def tw761146451380622010:=0
def tw7618610000498031717:=0
def tw7776171534156742692:=0
def tw7859230547434192257:=0
def tw7865613049651981221:=0
def tw7869440182652001978:=0
def tw7876475911524293945:=0
def tw791080682697440560:=0
def tw7913773438276130557:=0
def tw8042179812283307022:=0
def tw810912466058003564:=0
def tw8134862162322627361:=0
def tw8161164879442858273:=0
def tw8304845502055307509:=0
def tw8434747547247024113:=0
def tw8435836910643678628:=0
def tw8566689754356654494:=0
def tw8813315387428138105:=0
def tw888675816137046128:=0
def tw9123164264441057224:=0
def tw9150948410281631970:=0
def tw9166527885158381225:=0
def tw9214469224291477745:=0
def tw9221950985467180947:=0
def tw9250335606446665162:=0
def tw9269324772807594468:=0
def tw9324776897501806518:=0
def tw9553466819375361083:=0
def tw9763337476492144834:=0
def tw9810114052603282654:=0
def tw9966668522903416702:=0
end PySem.W.Fast
open PySem PySem.W PyProof.Rows
set_option maxRecDepth 100000 in
set_option maxHeartbeats 0 in
theorem PySem.Challenge.cw_lateinputs_s01_answers_holds : PySem.Challenge.rw_lateinputs_s01_answers.Holds := by
 w_on;k_headS;(case hw=>exact ⟨[.list [.int 11]],by decide +kernel,by decide +kernel⟩)
 k_fillS
 refine L2.walk_specK (r:=PySem.Challenge.rw_lateinputs_s01_answers) (k:=14) (CX:=L2.CX0) (ps:=["calls"]) (sp:=Pr.Z2m) (by decide +kernel) rfl rfl ⟨rfl,by decide,by decide⟩ (fun w h Y=>PySem.W.kIn_of Y) ?F ?S (fun _ _ _ _ z=>z)
 case F=>
  intro w mg fa h Y KX G hmg
  refine' Pr.fin_top2 KX G hmg (Pr.rg_mk KX G ?ra ?rb) (Pr.rw_mk KX G ?wa ?wb ?wc) (Pr.do_mk KX G ?da ?n1 ?n2 ?n3 ?n4 ?n5 ?n6 ?n7 ?n8 ?n9 ?n10 ?n11 ?n12 ?n13 ?n14 ?n15 ?db) ?T
  (case ra=>k_is);(case rb=>exact rfl);(case wa=>k_is);(case wb=>exact rfl);(case wc=>exact rfl);(case da=>k_is);(case n1=>k_is);(case n2=>k_is);(case n3=>k_is);(case n4=>k_is);(case n5=>k_is);(case n6=>k_is);(case n7=>k_is);(case n8=>k_is);(case n9=>k_is);(case n10=>k_is);(case n11=>k_is);(case n12=>k_is);(case n13=>k_is);(case n14=>k_is);(case n15=>k_is);(case db=>exact rfl)
  intro aR mR rR aW tW mW rW qW aD mD rD
  refine' { cStay:=_,X1:=⟨?h1,?h2,?h3,?h4⟩,Jc:=Pr.na_mk ?h5,Uf:=Pr.na_mk ?h6,Z0l:=Pr.na_mk ?h7,J5:=Pr.na_mk ?h8,cStay_m:=PySem.W.mg_of KX G ?h9,cSession:=_,Z1:=⟨?h10,?h11,?h12,?h13⟩,U4:=Pr.na_mk ?h14,Z19:=Pr.na_mk ?h15,Z2i:=Pr.na_mk ?h16,Z2j:=Pr.na_mk ?h17,Z18:=Pr.na_mk ?h18,Zt:=Pr.na_mk ?h19,X2:=Pr.na_mk ?h20,Xu:=Pr.na_mk ?h21,Yw:=Pr.na_mk ?h22,Zh:=Pr.na_mk ?h23,Zn:=Pr.na_mk ?h24,Xv:=Pr.na_mk ?h25,Yo:=Pr.na_mk ?h26,Zo:=Pr.na_mk ?h27,Zdt:=PySem.W.mg_of KX G ?h28,cLine:=_,Yp:=⟨?h29,?h30,?h31,?h32⟩,Ze:=Pr.na_mk ?h33,cLine_m:=PySem.W.mg_of KX G ?h34,Stay_init:=Pr.mf_mk ?h35 ?h36 ?h37 ?h38 ?h39 (fun _ _ _ _ _ _=>Pr.lc4 fun _ _ _ _=>rfl),takes_in:=Pr.gf_mk KX G ?h40 ?h41 ?h42 ?h43 (fun _ _ _ _ _ _=>Pr.lc2 fun _ _=>rfl),is_there:=Pr.gf_mk KX G ?h44 ?h45 ?h46 ?h47 (fun _ _ _ _ _ _=>Pr.lc3 fun _ _ _=>rfl),present_stay:=Pr.gf_mk KX G ?h48 ?h49 ?h50 ?h51 (fun _ _ _ _ _ _=>Pr.lc2 fun _ _=>rfl),next_number:=Pr.gf_mk KX G ?h52 ?h53 ?h54 ?h55 (fun _ _ _ _ _ _=>Pr.lc2 fun _ _=>rfl),row_of:=Pr.gf_mk KX G ?h56 ?h57 ?h58 ?h59 (fun _ _ _ _ _ _=>Pr.lc1 fun _=>rfl),name_of:=Pr.gf_mk KX G ?h60 ?h61 ?h62 ?h63 (fun _ _ _ _ _ _=>Pr.lc1 fun _=>rfl),counting:=Pr.gf_mk KX G ?h64 ?h65 ?h66 ?h67 (fun _ _ _ _ _ _=>Pr.lc2 fun _ _=>rfl),counting_of:=Pr.gf_mk KX G ?h68 ?h69 ?h70 ?h71 (fun _ _ _ _ _ _=>Pr.lc3 fun _ _ _=>rfl),counting_for:=Pr.gf_mk KX G ?h72 ?h73 ?h74 ?h75 (fun _ _ _ _ _ _=>Pr.lc2 fun _ _=>rfl),guess_for:=Pr.gf_mk KX G ?h76 ?h77 ?h78 ?h79 (fun _ _ _ _ _ _=>Pr.lc4 fun _ _ _ _=>rfl),deeds_of:=Pr.gf_mk KX G ?h80 ?h81 ?h82 ?h83 (fun _ _ _ _ _ _=>Pr.lc4 fun _ _ _ _=>rfl),rows_of:=Pr.gf_mk KX G ?h84 ?h85 ?h86 ?h87 (fun _ _ _ _ _ _=>Pr.lc1 fun _=>rfl),first_cells:=Pr.gf_mk KX G ?h88 ?h89 ?h90 ?h91 (fun _ _ _ _ _ _=>Pr.lc1 fun _=>rfl),place_of:=Pr.gf_mk KX G ?h92 ?h93 ?h94 ?h95 (fun _ _ _ _ _ _=>Pr.lc1 fun _=>rfl),put:=Pr.gf_mk KX G ?h96 ?h97 ?h98 ?h99 (fun _ _ _ _ _ _=>Pr.lc3 fun _ _ _=>rfl),exchange:=Pr.gf_mk KX G ?h100 ?h101 ?h102 ?h103 (fun _ _ _ _ _ _=>Pr.lc3 fun _ _ _=>rfl),add_if_less:=Pr.gf_mk KX G ?h104 ?h105 ?h106 ?h107 (fun _ _ _ _ _ _=>Pr.lc4 fun _ _ _ _=>rfl),do_three_numbers:=Pr.gf_mk KX G ?h108 ?h109 ?h110 ?h111 (fun _ _ _ _ _ _=>Pr.lc2 fun _ _=>rfl),do_says:=Pr.gf_mk KX G ?h112 ?h113 ?h114 ?h115 (fun _ _ _ _ _ _=>Pr.lc2 fun _ _=>rfl),do_deed:=Pr.gf_mk KX G ?h116 ?h117 ?h118 ?h119 (fun _ _ _ _ _ _=>Pr.lc2 fun _ _=>rfl),cells_behind:=Pr.gf_mk KX G ?h120 ?h121 ?h122 ?h123 (fun _ _ _ _ _ _=>Pr.lc3 fun _ _ _=>rfl),Jf:=Pr.mf_mk ?h124 ?h125 ?h126 ?h127 ?h128 (fun _ _ _ _ _ _=>Pr.lc7 fun _ _ _ _ _ _ _=>rfl),Ym:=Pr.mf_mk ?h129 ?h130 ?h131 ?h132 ?h133 (fun _ _ _ _ _ _=>Pr.lc2 fun _ _=>rfl),X5:=Pr.mf_mk ?h134 ?h135 ?h136 ?h137 ?h138 (fun _ _ _ _ _ _=>Pr.lc2 fun _ _=>rfl),Jd:=Pr.mf_mk ?h139 ?h140 ?h141 ?h142 ?h143 (fun _ _ _ _ _ _=>Pr.lc2 fun _ _=>rfl),Zq:=Pr.mf_mk ?h144 ?h145 ?h146 ?h147 ?h148 (fun _ _ _ _ _ _=>Pr.lc2 fun _ _=>rfl),Je:=Pr.mf_mk ?h149 ?h150 ?h151 ?h152 ?h153 (fun _ _ _ _ _ _=>Pr.lc2 fun _ _=>rfl),Zz:=Pr.mf_mk ?h154 ?h155 ?h156 ?h157 ?h158 (fun _ _ _ _ _ _=>Pr.lc2 fun _ _=>rfl),X4:=Pr.mf_mk ?h159 ?h160 ?h161 ?h162 ?h163 (fun _ _ _ _ _ _=>Pr.lc2 fun _ _=>rfl),Y0:=Pr.mf_mk ?h164 ?h165 ?h166 ?h167 ?h168 (fun _ _ _ _ _ _=>Pr.lc2 fun _ _=>rfl),Zk:=Pr.mf_mk ?h169 ?h170 ?h171 ?h172 ?h173 (fun _ _ _ _ _ _=>Pr.lc1 fun _=>rfl),Yc:=Pr.mf_mk ?h174 ?h175 ?h176 ?h177 ?h178 (fun _ _ _ _ _ _=>Pr.lc2 fun _ _=>rfl),Yr:=Pr.mf_mk ?h179 ?h180 ?h181 ?h182 ?h183 (fun _ _ _ _ _ _=>Pr.lc2 fun _ _=>rfl),Y7:=Pr.mf_mk ?h184 ?h185 ?h186 ?h187 ?h188 (fun _ _ _ _ _ _=>Pr.lc1 fun _=>rfl),Zw:=Pr.mf_mk ?h189 ?h190 ?h191 ?h192 ?h193 (fun _ _ _ _ _ _=>Pr.lc2 fun _ _=>rfl),Ya:=Pr.mf_mk ?h194 ?h195 ?h196 ?h197 ?h198 (fun _ _ _ _ _ _=>Pr.lc1 fun _=>rfl),Xj:=Pr.mf_mk ?h199 ?h200 ?h201 ?h202 ?h203 (fun _ _ _ _ _ _=>Pr.lc2 fun _ _=>rfl),Yq:=Pr.mf_mk ?h204 ?h205 ?h206 ?h207 ?h208 (fun _ _ _ _ _ _=>Pr.lc1 fun _=>rfl),Y6:=Pr.mf_mk ?h209 ?h210 ?h211 ?h212 ?h213 (fun _ _ _ _ _ _=>Pr.lc1 fun _=>rfl),Zg:=Pr.mf_mk ?h214 ?h215 ?h216 ?h217 ?h218 (fun _ _ _ _ _ _=>Pr.lc2 fun _ _=>rfl),Yb:=Pr.mf_mk ?h219 ?h220 ?h221 ?h222 ?h223 (fun _ _ _ _ _ _=>Pr.lc2 fun _ _=>rfl),Yd:=Pr.mf_mk ?h224 ?h225 ?h226 ?h227 ?h228 (fun _ _ _ _ _ _=>Pr.lc2 fun _ _=>rfl),Y1:=Pr.mf_mk ?h229 ?h230 ?h231 ?h232 ?h233 (fun _ _ _ _ _ _=>Pr.lc4 fun _ _ _ _=>rfl),Line_init:=Pr.mf_mk ?h234 ?h235 ?h236 ?h237 ?h238 (fun _ _ _ _ _ _=>Pr.lc1 fun _=>rfl),row_fits:=Pr.gf_mk KX G ?h239 ?h240 ?h241 ?h242 (fun _ _ _ _ _ _=>Pr.lc2 fun _ _=>rfl),numbers_fit:=Pr.gf_mk KX G ?h243 ?h244 ?h245 ?h246 (fun _ _ _ _ _ _=>Pr.lc2 fun _ _=>rfl),begin_session:=Pr.gf_mk KX G ?h247 ?h248 ?h249 ?h250 (fun _ _ _ _ _ _=>Pr.lc2 fun _ _=>rfl),join_player:=Pr.gf_mk KX G ?h251 ?h252 ?h253 ?h254 (fun _ _ _ _ _ _=>Pr.lc2 fun _ _=>rfl),leave_player:=Pr.gf_mk KX G ?h255 ?h256 ?h257 ?h258 (fun _ _ _ _ _ _=>Pr.lc2 fun _ _=>rfl),take_one:=Pr.gf_mk KX G ?h259 ?h260 ?h261 ?h262 (fun _ _ _ _ _ _=>Pr.lc2 fun _ _=>rfl),make_ticks:=Pr.gf_mk KX G ?h263 ?h264 ?h265 ?h266 (fun _ _ _ _ _ _=>Pr.lc2 fun _ _=>rfl),lock_ticks:=Pr.gf_mk KX G ?h267 ?h268 ?h269 ?h270 (fun _ _ _ _ _ _=>Pr.lc2 fun _ _=>rfl),resize_window:=Pr.gf_mk KX G ?h271 ?h272 ?h273 ?h274 (fun _ _ _ _ _ _=>Pr.lc2 fun _ _=>rfl),tell_world:=Pr.gf_mk KX G ?h275 ?h276 ?h277 ?h278 (fun _ _ _ _ _ _=>Pr.lc2 fun _ _=>rfl),tell_counts:=Pr.gf_mk KX G ?h279 ?h280 ?h281 ?h282 (fun _ _ _ _ _ _=>Pr.lc2 fun _ _=>rfl),tell_deeds:=Pr.gf_mk KX G ?h283 ?h284 ?h285 ?h286 (fun _ _ _ _ _ _=>Pr.lc2 fun _ _=>rfl),tell_fate:=Pr.gf_mk KX G ?h287 ?h288 ?h289 ?h290 (fun _ _ _ _ _ _=>Pr.lc2 fun _ _=>rfl),tell_snapshots:=Pr.gf_mk KX G ?h291 ?h292 ?h293 ?h294 (fun _ _ _ _ _ _=>Pr.lc2 fun _ _=>rfl),tell_now:=Pr.gf_mk KX G ?h295 ?h296 ?h297 ?h298 (fun _ _ _ _ _ _=>Pr.lc2 fun _ _=>rfl),tell_stays:=Pr.gf_mk KX G ?h299 ?h300 ?h301 ?h302 (fun _ _ _ _ _ _=>Pr.lc2 fun _ _=>rfl),tell_ready:=Pr.gf_mk KX G ?h303 ?h304 ?h305 ?h306 (fun _ _ _ _ _ _=>Pr.lc2 fun _ _=>rfl),tell_plain:=Pr.gf_mk KX G ?h307 ?h308 ?h309 ?h310 (fun _ _ _ _ _ _=>Pr.lc2 fun _ _=>rfl),answer:=Pr.gf_mk KX G ?h311 ?h312 ?h313 ?h314 (fun _ _ _ _ _ _=>Pr.lc3 fun _ _ _=>rfl),row_place:=Pr.gf_mk KX G ?h315 ?h316 ?h317 ?h318 (fun _ _ _ _ _ _=>Pr.lc2 fun _ _=>rfl),call_end:=Pr.gf_mk KX G ?h319 ?h320 ?h321 ?h322 (fun _ _ _ _ _ _=>Pr.lc2 fun _ _=>rfl),call_numbers:=Pr.gf_mk KX G ?h323 ?h324 ?h325 ?h326 (fun _ _ _ _ _ _=>Pr.lc2 fun _ _=>rfl),answers:=Pr.gf_mk KX G ?h327 ?h328 ?h329 ?h330 (fun _ _ _ _ _ _=>Pr.lc1 fun _=>rfl),cStay_k:=Pr.mk_of _ ?h331 ?h332,Zdu:=Pr.mk_of _ ?h333 ?h334,cLine_k:=Pr.mk_of _ ?h335 ?h336,Wi:=Pr.kc_mk KX G ?h337,Xs:=Pr.kc_mk KX G ?h338,Xd:=Pr.kc_mk KX G ?h339,Zfh:=Pr.kc_mk KX G ?h340,Jn:=Pr.kc_mk KX G ?h341,Z3f:=Pr.kc_mk KX G ?h342,Z0h:=Pr.kc_mk KX G ?h343,U3:=Pr.kc_mk KX G ?h344,U2:=Pr.kc_mk KX G ?h345,Z8m:=Pr.kc_mk KX G ?h346,Js:=Pr.kc_mk KX G ?h347,Z1r:=Pr.kc_mk KX G ?h348,Wj:=Pr.kc_mk KX G ?h349,Z0g:=Pr.kc_mk KX G ?h350,Z0e:=Pr.kc_mk KX G ?h351,Us:=Pr.kc_mk KX G ?h352,Z1s:=Pr.kc_mk KX G ?h353,Xt:=Pr.kc_mk KX G ?h354,Up:=Pr.kc_mk KX G ?h355,Ur:=Pr.kc_mk KX G ?h356,Yk:=Pr.kc_mk KX G ?h357,Yv:=Pr.kc_mk KX G ?h358,Uq:=Pr.kc_mk KX G ?h359,Yl:=Pr.kc_mk KX G ?h360,Z0f:=Pr.kc_mk KX G ?h361,Z1u:=Pr.kc_mk KX G ?h362,Z1t:=Pr.kc_mk KX G ?h363,J3:=Pr.kc_mk KX G ?h364,Zfi:=Pr.kc_mk KX G ?h365,b_len:=PySem.W.mg_none_of KX G ?h366,b_range:=PySem.W.mg_none_of KX G ?h367,b_any:=PySem.W.mg_none_of KX G ?h368,b_all:=PySem.W.mg_none_of KX G ?h369,b_sorted:=PySem.W.mg_none_of KX G ?h370,b_min:=PySem.W.mg_none_of KX G ?h371,b_max:=PySem.W.mg_none_of KX G ?h372,b_list:=PySem.W.mg_none_of KX G ?h373,b_tuple:=PySem.W.mg_none_of KX G ?h374,b_dict:=PySem.W.mg_none_of KX G ?h375,b_zip:=PySem.W.mg_none_of KX G ?h376,aRANGES:=aR,m_RANGES:=mR,r_RANGES:=rR,aROWS:=aW,tROWS:=tW,m_ROWS:=mW,r_ROWS:=rW,t_ROWS:=qW,aDOERS:=aD,m_DOERS:=mD,r_DOERS:=rD }
  (case h9=>k_is);(case h28=>k_is);(case h34=>k_is);(case h1=>k_is);(case h2=>k_is);(case h3=>k_is);(case h4=>k_is);(case h5=>k_is)
  (case h6=>k_is);(case h7=>k_is);(case h8=>k_is);(case h10=>k_is);(case h11=>k_is);(case h12=>k_is);(case h13=>k_is);(case h14=>k_is)
  (case h15=>k_is);(case h16=>k_is);(case h17=>k_is);(case h18=>k_is);(case h19=>k_is);(case h20=>k_is);(case h21=>k_is);(case h22=>k_is)
  (case h23=>k_is);(case h24=>k_is);(case h25=>k_is);(case h26=>k_is);(case h27=>k_is);(case h29=>k_is);(case h30=>k_is);(case h31=>k_is)
  (case h32=>k_is);(case h33=>k_is);(case h35=>k_is);(case h36=>k_is);(case h37=>k_is);(case h38=>k_is);(case h39=>k_is);(case h40=>k_is)
  (case h41=>k_is);(case h42=>k_is);(case h43=>k_is);(case h44=>k_is);(case h45=>k_is);(case h46=>k_is);(case h47=>k_is);(case h48=>k_is)
  (case h49=>k_is);(case h50=>k_is);(case h51=>k_is);(case h52=>k_is);(case h53=>k_is);(case h54=>k_is);(case h55=>k_is);(case h56=>k_is)
  (case h57=>k_is);(case h58=>k_is);(case h59=>k_is);(case h60=>k_is);(case h61=>k_is);(case h62=>k_is);(case h63=>k_is);(case h64=>k_is)
  (case h65=>k_is);(case h66=>k_is);(case h67=>k_is);(case h68=>k_is);(case h69=>k_is);(case h70=>k_is);(case h71=>k_is);(case h72=>k_is)
  (case h73=>k_is);(case h74=>k_is);(case h75=>k_is);(case h76=>k_is);(case h77=>k_is);(case h78=>k_is);(case h79=>k_is);(case h80=>k_is)
  (case h81=>k_is);(case h82=>k_is);(case h83=>k_is);(case h84=>k_is);(case h85=>k_is);(case h86=>k_is);(case h87=>k_is);(case h88=>k_is)
  (case h89=>k_is);(case h90=>k_is);(case h91=>k_is);(case h92=>k_is);(case h93=>k_is);(case h94=>k_is);(case h95=>k_is);(case h96=>k_is)
  (case h97=>k_is);(case h98=>k_is);(case h99=>k_is);(case h100=>k_is);(case h101=>k_is);(case h102=>k_is);(case h103=>k_is);(case h104=>k_is)
  (case h105=>k_is);(case h106=>k_is);(case h107=>k_is);(case h108=>k_is);(case h109=>k_is);(case h110=>k_is);(case h111=>k_is);(case h112=>k_is)
  (case h113=>k_is);(case h114=>k_is);(case h115=>k_is);(case h116=>k_is);(case h117=>k_is);(case h118=>k_is);(case h119=>k_is);(case h120=>k_is)
  (case h121=>k_is);(case h122=>k_is);(case h123=>k_is);(case h124=>k_is);(case h125=>k_is);(case h126=>k_is);(case h127=>k_is);(case h128=>k_is)
  (case h129=>k_is);(case h130=>k_is);(case h131=>k_is);(case h132=>k_is);(case h133=>k_is);(case h134=>k_is);(case h135=>k_is);(case h136=>k_is)
  (case h137=>k_is);(case h138=>k_is);(case h139=>k_is);(case h140=>k_is);(case h141=>k_is);(case h142=>k_is);(case h143=>k_is);(case h144=>k_is)
  (case h145=>k_is);(case h146=>k_is);(case h147=>k_is);(case h148=>k_is);(case h149=>k_is);(case h150=>k_is);(case h151=>k_is);(case h152=>k_is)
  (case h153=>k_is);(case h154=>k_is);(case h155=>k_is);(case h156=>k_is);(case h157=>k_is);(case h158=>k_is);(case h159=>k_is);(case h160=>k_is)
  (case h161=>k_is);(case h162=>k_is);(case h163=>k_is);(case h164=>k_is);(case h165=>k_is);(case h166=>k_is);(case h167=>k_is);(case h168=>k_is)
  (case h169=>k_is);(case h170=>k_is);(case h171=>k_is);(case h172=>k_is);(case h173=>k_is);(case h174=>k_is);(case h175=>k_is);(case h176=>k_is)
  (case h177=>k_is);(case h178=>k_is);(case h179=>k_is);(case h180=>k_is);(case h181=>k_is);(case h182=>k_is);(case h183=>k_is);(case h184=>k_is)
  (case h185=>k_is);(case h186=>k_is);(case h187=>k_is);(case h188=>k_is);(case h189=>k_is);(case h190=>k_is);(case h191=>k_is);(case h192=>k_is)
  (case h193=>k_is);(case h194=>k_is);(case h195=>k_is);(case h196=>k_is);(case h197=>k_is);(case h198=>k_is);(case h199=>k_is);(case h200=>k_is)
  (case h201=>k_is);(case h202=>k_is);(case h203=>k_is);(case h204=>k_is);(case h205=>k_is);(case h206=>k_is);(case h207=>k_is);(case h208=>k_is)
  (case h209=>k_is);(case h210=>k_is);(case h211=>k_is);(case h212=>k_is);(case h213=>k_is);(case h214=>k_is);(case h215=>k_is);(case h216=>k_is)
  (case h217=>k_is);(case h218=>k_is);(case h219=>k_is);(case h220=>k_is);(case h221=>k_is);(case h222=>k_is);(case h223=>k_is);(case h224=>k_is)
  (case h225=>k_is);(case h226=>k_is);(case h227=>k_is);(case h228=>k_is);(case h229=>k_is);(case h230=>k_is);(case h231=>k_is);(case h232=>k_is)
  (case h233=>k_is);(case h234=>k_is);(case h235=>k_is);(case h236=>k_is);(case h237=>k_is);(case h238=>k_is);(case h239=>k_is);(case h240=>k_is)
  (case h241=>k_is);(case h242=>k_is);(case h243=>k_is);(case h244=>k_is);(case h245=>k_is);(case h246=>k_is);(case h247=>k_is);(case h248=>k_is)
  (case h249=>k_is);(case h250=>k_is);(case h251=>k_is);(case h252=>k_is);(case h253=>k_is);(case h254=>k_is);(case h255=>k_is);(case h256=>k_is)
  (case h257=>k_is);(case h258=>k_is);(case h259=>k_is);(case h260=>k_is);(case h261=>k_is);(case h262=>k_is);(case h263=>k_is);(case h264=>k_is)
  (case h265=>k_is);(case h266=>k_is);(case h267=>k_is);(case h268=>k_is);(case h269=>k_is);(case h270=>k_is);(case h271=>k_is);(case h272=>k_is)
  (case h273=>k_is);(case h274=>k_is);(case h275=>k_is);(case h276=>k_is);(case h277=>k_is);(case h278=>k_is);(case h279=>k_is);(case h280=>k_is)
  (case h281=>k_is);(case h282=>k_is);(case h283=>k_is);(case h284=>k_is);(case h285=>k_is);(case h286=>k_is);(case h287=>k_is);(case h288=>k_is)
  (case h289=>k_is);(case h290=>k_is);(case h291=>k_is);(case h292=>k_is);(case h293=>k_is);(case h294=>k_is);(case h295=>k_is);(case h296=>k_is)
  (case h297=>k_is);(case h298=>k_is);(case h299=>k_is);(case h300=>k_is);(case h301=>k_is);(case h302=>k_is);(case h303=>k_is);(case h304=>k_is)
  (case h305=>k_is);(case h306=>k_is);(case h307=>k_is);(case h308=>k_is);(case h309=>k_is);(case h310=>k_is);(case h311=>k_is);(case h312=>k_is)
  (case h313=>k_is);(case h314=>k_is);(case h315=>k_is);(case h316=>k_is);(case h317=>k_is);(case h318=>k_is);(case h319=>k_is);(case h320=>k_is)
  (case h321=>k_is);(case h322=>k_is);(case h323=>k_is);(case h324=>k_is);(case h325=>k_is);(case h326=>k_is);(case h327=>k_is);(case h328=>k_is)
  (case h329=>k_is);(case h330=>k_is);(case h331=>k_is);(case h332=>k_is);(case h333=>k_is);(case h334=>k_is);(case h335=>k_is);(case h336=>k_is)
  (case h337=>k_is);(case h338=>k_is);(case h339=>k_is);(case h340=>k_is);(case h341=>k_is);(case h342=>k_is);(case h343=>k_is);(case h344=>k_is)
  (case h345=>k_is);(case h346=>k_is);(case h347=>k_is);(case h348=>k_is);(case h349=>k_is);(case h350=>k_is);(case h351=>k_is);(case h352=>k_is)
  (case h353=>k_is);(case h354=>k_is);(case h355=>k_is);(case h356=>k_is);(case h357=>k_is);(case h358=>k_is);(case h359=>k_is);(case h360=>k_is)
  (case h361=>k_is);(case h362=>k_is);(case h363=>k_is);(case h364=>k_is);(case h365=>k_is);(case h366=>k_is);(case h367=>k_is);(case h368=>k_is)
  (case h369=>k_is);(case h370=>k_is);(case h371=>k_is);(case h372=>k_is);(case h373=>k_is);(case h374=>k_is);(case h375=>k_is);(case h376=>k_is)
 case S=>
  intro K H xs a hO hwi hask hx
  cases hx with
  | cons h1 h2=>
   cases h2
   cases h1 with
   | lst hs ha=>
    have e:=L2.ints_dw a.1 _ ha
    subst e
    have q:((Codec.inLen 0 4000 a.1&&a.1.all (Codec.inInt (Int.negSucc 999999999999999999) (Int.ofNat 1000000000000000000)))&&true)=true:=hwi
    rw [Bool.and_eq_true,Bool.and_eq_true] at q
    exact ⟨_,a.1,rfl,hs,hO,hask,Nat.le_trans (Codec.inNat_iff.mp q.1.1).2 (by decide),fun H' p hp=>.lst (L2.SqL.of hp) (L2.dw_ints _)⟩
