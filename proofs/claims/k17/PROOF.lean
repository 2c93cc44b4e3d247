import PyProof.Rows.All
import Wide.All
import OpenK.AllK
import Wide.FinOn
import Lean
import PyProof.EqAt
import PyProof.EqKinds
import PyProof.TupleCall
import KE.KTryMore
import KE.KDictLaws
import KE.KDictList
import KE.KDictOf
import PyProof.AttrMiss
import PyProof.SetScanFacts
import PyProof.SetKind
import PyProof.WalkInts
import KE.KIntText
import PyProof.ZipIter
import KE.KMinKey
import PyProof.Draws
import KE.RegKTryMore
import PySem.Challenge.RW_askbook_k17_whole_cut
set_option Elab.async false
set_option linter.all false
set_option maxRecDepth 100000
set_option maxHeartbeats 4000000
open PySem renaming wpAny_bind→aA,wpAny_pure→aB,Value→aC,Shared→aI,sizeLine→aQ,wpAny→bA,starEach→bE,model→bH,Program→bQ,wpAny_mono→bU,World→bZ,sizeLine_eq→cD,compareOp→cF,Around→cG,wpAny_newObj_type→cL,wpAny_holding→cM,mainGlobals→cO,wpAny_call_entry→cU,wpAny_setState_of→cW,SetTable→cY,rawInt→dR,mem_of_lookup→dW,wpAny_truthy_bool→dX,codeAny_builtin→eB,wpAny_forIn_list→eC,Scope→eI,cLine→eL,codeAny_mono→eP,wpAny_Call_Name_kw→eS,wpAny_callSpecial?_slot→eV,wpAny_askSetting→eW,backTo→eZ,wpAny_pyIter_list→fB,NameKind→fP,wpAny_setField→fQ,wpAny_setEntries_of→fV,sysModules→gF,wpAny_specialOf→gL,wpAny_passesOwn→gN,bootBuiltins→gO,foldedSetIterable→gQ,binaryOp→gR,ofAClassStatement→gW,wpAny_isInstance→hG,IsTupleKey→hV,Keyword→iA,FuncData→iC,wpAny_loadPart'→iD,wpAny_ite_split→iF,codeAny→iO,wpAny_seqItems→iU,assignEach→iV,wpAny_field→iW,codeAny_call_builtin→iY,wpAny_typeOf→jB,PyData→jI,attributeBase→jK,fresh→jM,plainId_quiet→jP,codeAny_of_tree→jR,wpAny_rule→jS,builtinsNs→jU,pyNext→jV,swapsWith→jX,cellsFrom→kA,sliceBounds→kC,keywordEach→kE,hashByValue→kH,intKind→kI,wpAny_storeSet_of→kP,wpAny_pyIter_slot→kR,atKey_none_of_get→kU,wpAny_pyIter_enum→kX,isSubtype_tuple_tuple→kY,weight_type_call_type→kZ,Arguments→lC,behindInMarks→lH,relabel→lI,wpAny_attempt→lJ,wpAny_newList→lK,wpAny_of_eq→lR,wpAny_execs_nil→lT,letOwnedTupleGo→lU,notedBy→mD,wpAny_tupleItemsOf→mG,recursionLimit→mH,wpAny_call→mJ,isSubtype_type→mO,wpAny_runValue→mR,setsByText→mS,wpAny_fieldsOf→mT,firstArgMember→mU,noFill_tuple_add→nR,backToKw→nS,atKey→nT,noteFrame→nV,checkBuiltinCall→nY,concat_meets→oE,IsPart→oF,getItem→oG,call_meets→oH,intKind_is→oK,setAddHashed→oM,eqIsQuiet→oZ,PassesOwn→pA,lastMarks→pB,valueAt→pC,callerA→pD,pushCells→pE,pickOrder→pF
open PySem.Heap renaming get?_push_of_some→aD,lt_size→aT,get?_push_size→aX,SameBut→cK,get?_update_self→cN,get?_update_other→eE,size_push→fA,get?_update_ne→fW,size_update→lE,get?_none_of_le→lO,get?→pG
open List renaming length_cons→aE,mem_cons_of_mem→aK,replicate→aM,mem_cons_self→aN,length_map→aO,getElem?_cons_succ→aR,getElem?_cons_zero→aS,map_cons→aV,range→aW,length_append→aZ,size_toArray→bC,mem_of_getElem?→bF,getElem?_set_self→bK,getElem?_eq_getElem→bL,getElem?_map→bM,getElem?_set_ne→bN,getD_eq_getElem?_getD→bR,mem_append_right→bT,mem_append_left→bW,append_nil→cA,getElem?_append_right→cJ,getElem?_append_left→cP,all_cons→cS,length_set→cV,map_map→dA,length_nil→dC,map_append→dD,length_replicate→dE,length_drop→dH,append_assoc→dM,length_range→dN,length_take→dS,mem_cons→dU,set_cons_succ→dZ,lookup_cons→eF,filter_cons→eH,getElem?_eq_none→eM,set_cons_zero→eU,getElem?_of_mem→eX,pairwise_lt_range→fE,filterMap_cons→fF,replicate_succ→fG,nil_append→fH,find?_cons→fI,drop_eq_getElem_cons→fK,flatten_cons→fR,foldl_cons→fS,map_congr_left→fU,length→gS,getElem?_range→gZ,length_singleton→iJ,length_filter_le→iK,cons_lt_cons_iff→iM,flatMap_cons→iS,mem_of_find?_eq_some→jH,any_cons→jL,map_take→jN,map_drop→jO,zip_cons_cons→jT,mem_singleton→jW,map_nil→kL,nodup_nil→kM,take_of_length_le→kN,take_append_drop→lA,cons_append→lF,lt_trans→lM,mem_append→lZ,ext_getElem?→nF,pairwise_map→nH,sum_cons→nQ,getElem_mem→nW,not_mem_nil→nZ,map_fst_zip→oA,any_eq_true→oB,of_mem_zip→oP,find?_some→oV
open Bool renaming and_eq_true→aF,or_eq_true→dG,not_true→dJ,not_false→gD,not_eq_true'→gU,and_false→hJ,true_and→lN,and_self→nM
open Nat renaming le_refl→aH,lt_of_lt_of_le→bI,ne_of_lt→bJ,zero_le→bX,le_trans→cB,lt_irrefl→cI,le_of_eq→eQ,lt_or_ge→fY,le_succ→fZ,lt_succ_of_lt→gV,lt_succ_self→hU,lt_trichotomy→iR,pow_le_pow_right→iZ,ne_of_gt→jA,le_add_right→jC,pow_succ→kW,not_lt_zero→lX,zero_add→mF,lt_of_le_of_lt→mL,lt_or_gt_of_ne→mY,one_le_two_pow→nB,add_assoc→nJ,reduceAdd→nN,reduceSub→nO,le_of_not_lt→nU,le_of_lt→oC,mul_comm→oJ
open Array renaming length_toList→aL,getElem?_toList→bO,getElem?_eq_getElem→bP,forIn_toList→fL,toArray_toList→lS,getD→mV,toList_map→nX,range→oX
open PySem.W renaming Frag→aU,mg_of→cT,keepIn→cX,fnOf→eD,exmOne→eO,kia_one→fT,excIn→gA,codeIn→gG,nsIn→gX,kitOne→iX,codeHdIn→jF,subIn→jQ,tabObj→nA,methodObj→nC,envX→oO,kla_obj→oQ,kitMeta→oW
open PySem.PyData renaming canLayAll0→bB,depthAll→bV,int→bY,eqv→dB,canLay0→dI,eqvAll→iH,depth→jE
open Option.some renaming inj→bS
open PyProof.Rows.F renaming plain_set_update_loop→cC,entry_set_update_loop→eK
open PySem.Value renaming none→cE,ref→cQ,type→gE,int→gK,bool→lB,str→oY
open PySem.Heap.SameBut renaming update→cH
open PySem.NameKind renaming free→cR,cell→eA
open PySem.SeqAt renaming shaped→cZ,canLay_of_shaped→iB
open PySem.SetTable renaming insertAt→dO,below→fC,fits→iG
open PyProof.Rows renaming seqObj→dP,slot_tuple_getitem→fJ,IntsAre→fO,listUpdate_at→iI,callWith_type1→iN,boot_tuple→kF,AllBare→mC,room_in_shaped→mM,seqEpoch_at→nG,envOfC→oD,entry_list_sort→oR,get?_update_seq→oS
open PySem.Builtin.Tuple renaming tupleHashOf→dQ,tupleExact→eN,tupleItemsOf→iT
open PySem.Around renaming under_plainId→dY,under_plain→mQ
open Classical renaming byContradiction→eJ
open False renaming elim→eR
open PySem.Obj renaming mapFields→eY,mapSeq→gH,putSet→gI,data_mapFields→mK
open Ne renaming symm→fM
open PySem.Builtin.List renaming listTooLong→fN,listLengthHint→mE
open PySem.Str renaming ofString→fX
open PySem.Builtin.Slice renaming slicePlaces→gJ,sliceAdjust→jG
open PySem.AutoSeq1 renaming wpAny_loadPart'→gY
open List.Perm renaming refl→hO,swap→kQ
open PySem.Builtin.Frozenset renaming updateFrom→iE
open PySem.F renaming slot_set_iter→iL,args_tuple_add_2→jJ,entry_tuple_add→kB,plainAttrs_list→kG,slot_tuple_add→kJ,slot_dict_setdefault→lY
open Int renaming toNat_natCast→iP,ofNat→jD,emod_lt_of_pos→mZ,emod_nonneg→oU
open List.Pairwise renaming nil→iQ,map→nI
open PySem.Builtin.Range renaming rangeSize→jY
open PySem.Builtin.Str renaming occurrences→jZ
open PySem.Calls renaming callWith_builtin→kK,evalArgs_plain→lQ,spliced_cons→mI
open True renaming intro→lD
open Sum renaming inr→lG,inl→mB
open ForInStep renaming yield→lV
open PySem.Code renaming quiet_builtin→mP
open Option renaming isSome_map→nE,map→oN
abbrev aG.{u}:=@if_pos.{u}
abbrev aJ.{u}:=@if_neg.{u}
set_option bootstrap.genMatcherCode false
set_option compiler.extract_closed false
noncomputable section
section
namespace L2
open PySem
def oo:List Str:=["many"]
end L2
end
section
namespace L2
open PySem PySem.Spec PyProof.Rows
abbrev rn:=Sum Int Str
def Cr:rn->aC->Bool
 |.inl k,v=>Value.isInt k v
 |.inr x,v=>Value.isStrOf x v
def WJ(w:bZ):rn->Int
 |.inl k=>hashInt k
 |.inr x=>hashStr w x
def c9:∀{k:rn}{v:aC},Cr k v=true->(∃i t,k=mB i/\v=gK i t)\/(∃x t,k=lG x/\v=oY x t)
 |.inl i,v,h=>by
  obtain⟨t,e⟩:=Value.isInt_shape (k:=i) (v:=v) h;exact .inl ⟨i,t,rfl,e⟩
 |.inr x,v,h=>by
  obtain⟨t,e⟩:=Value.isStrOf_shape (x:=x) (v:=v) h;exact .inr ⟨x,t,rfl,e⟩
def Sy(i:Int)(t:Tok):Cr (.inl i) (.int i t)=true:=by simp[Cr,Value.isInt]
def Sz(x:Str)(t:Tok):Cr (.inr x) (.str x t)=true:=by simp[Cr,Value.isStrOf]
def JJ(a b:Int):decide ((mB a:rn)=mB b)=(a==b):=by
 by_cases e:a=b
 ·subst e;simp
 ·have h:¬(mB a:rn)=mB b:=λq=>e (Sum.inl.inj q);rw[decide_eq_false h];exact(beq_eq_false_iff_ne.mpr e).symm
def JE(a b:Str):decide ((lG a:rn)=lG b)=decide (a=b):=by
 by_cases e:a=b
 ·subst e;simp
 ·have h:¬(lG a:rn)=lG b:=λq=>e (Sum.inr.inj q);rw[decide_eq_false h,decide_eq_false e]
def JI(a:Int)(b:Str):decide ((mB a:rn)=lG b)=false:=decide_eq_false (λq=>nomatch q)
def JF(a:Str)(b:Int):decide ((lG a:rn)=mB b)=false:=decide_eq_false (λq=>nomatch q)
def cb(prog:bQ)(w:bZ):PySem.KeyKind prog w rn where
 is:=Cr
 hash:=WJ w
 inj:=λv a b ha hb=>by
  rcases c9 ha with ⟨i,t,rfl,rfl⟩|⟨x,t,rfl,rfl⟩
  ·rcases c9 hb with ⟨j,u,rfl,e⟩|⟨y,u,rfl,e⟩
   ·injection e with e1 _;rw[e1]
   ·exact nomatch e
  ·rcases c9 hb with ⟨j,u,rfl,e⟩|⟨y,u,rfl,e⟩
   ·exact nomatch e
   ·injection e with e1 _;rw[e1]
 byValue:=λk v h=>by
  rcases c9 h with ⟨i,t,rfl,rfl⟩|⟨x,t,rfl,rfl⟩<;>rfl
 pyHash:=λhv h=>by
  rcases c9 hv with ⟨i,t,rfl,rfl⟩|⟨x,t,rfl,rfl⟩
  ·exact wpAny_pyHash_int h
  ·exact wpAny_pyHash_str h
 eqBool:=λhu hv h=>by
  rcases c9 hu with ⟨i,t,rfl,rfl⟩|⟨x,t,rfl,rfl⟩
  ·rcases c9 hv with ⟨j,u,rfl,rfl⟩|⟨y,u,rfl,rfl⟩
   ·rw[JJ]at h;exact wpAny_eqBool_int h
   ·rw[JI]at h;exact SeqAt.EqAt.int_str i t y u _ _ _ _ h
  ·rcases c9 hv with ⟨j,u,rfl,rfl⟩|⟨y,u,rfl,rfl⟩
   ·rw[JF]at h;exact SeqAt.EqAt.str_int x t j u _ _ _ _ h
   ·rw[JE]at h;exact wpAny_eqBool_str h
 «strs»:=λk x t v h=>by
  rcases c9 h with ⟨i,u,rfl,e⟩|⟨y,u,rfl,e⟩
  ·exact nomatch e
  ·injection e with e1 _
   subst e1;cases v<;>rfl
def K4(prog:bQ)(w:bZ)(i:Int)(t:Tok):(cb prog w).is (.inl i) (.int i t)=true:=Sy i t
def K5(prog:bQ)(w:bZ)(x:Str)(t:Tok):(cb prog w).is (.inr x) (.str x t)=true:=Sz x t
end L2
namespace L2
open PySem PySem.Spec PyProof.Rows
abbrev NK:=Sum rn (List rn)
abbrev bg:=List NK
def Az(prog:bQ)(w:bZ)(h:Heap):NK->aC->Prop
 |.inl k,v=>(cb prog w).is k v=true
 |.inr ks,v=>∃b,v=.ref b/\hV (cb prog w) h ks b
def NItems(prog:bQ)(w:bZ)(h:Heap):bg->List aC->Prop
 |[],vs=>vs=[]
 |k::r,vs=>∃v t,vs=v::t/\Az prog w h k v/\NItems prog w h r t
def c7(prog:bQ)(w:bZ)(h:Heap)(ks:bg)(a:Addr):Prop:=∃o items n,h.get? a=some o/\o.cls=.type "tuple"/\o.data=.seq items n/\NItems prog w h ks items.toList
section
variable{prog:bQ}{w:bZ}
def Xc:∀{x y:NK}{v:aC},Az prog w h x v->Az prog w h y v->x=y
 |.inl a,.inl b,v,h1,h2=>by rw[(cb prog w).inj v a b h1 h2]
 |.inl a,.inr ys,v,h1,⟨b,e,_⟩=>by subst e;exact absurd ((cb prog w).byValue _ _ h1) (by intro z;cases z)
 |.inr xs,.inl b,v,⟨c,e,_⟩,h2=>by subst e;exact absurd ((cb prog w).byValue _ _ h2) (by intro z;cases z)
 |.inr xs,.inr ys,v,⟨b,e,q⟩,⟨c,e',q'⟩=>by subst e;cases e';rw[q.inj q']
theorem NItems.inj:∀{x y:bg}{vs:List aC},NItems prog w h x vs->NItems prog w h y vs->x=y
 |[],[],_,_,_=>rfl
 |[],_::_,vs,h1,⟨v,t,e,_⟩=>by rw[show vs=[]from h1]at e;cases e
 |_::_,[],vs,⟨v,t,e,_⟩,h2=>by rw[show vs=[]from h2]at e;cases e
 |a::x,b::y,vs,⟨v,t,e,h1,h2⟩,⟨v',t',e',h1',h2'⟩=>by
  subst e;cases e';rw[Xc h1 h1',NItems.inj h2 h2']
def N5{h h':Heap}{o:Obj}{es ep}(ho:h.get? d=some o)(hd:o.data=.dict es ep)(hs:cK d h h'):∀{k:NK}{v:aC},Az prog w h k v->Az prog w h' k v
 |.inl k,v,e=>e
 |.inr ks,v,⟨b,e,q⟩=>⟨b,e,q.keeps ho hd hs⟩
theorem NItems.keeps{h h':Heap}{o:Obj}{es ep}(ho:h.get? d=some o)(hd:o.data=.dict es ep)(hs:cK d h h'):∀{ks:bg}{vs:List aC},NItems prog w h ks vs->NItems prog w h' ks vs
 |[],_,e=>e
 |_::_,_,⟨v,t,e,h1,h2⟩=>⟨v,t,e,N5 ho hd hs h1,NItems.keeps ho hd hs h2⟩
def tu(w:bZ)(prog:bQ):NK->Int
 |.inl k=>(cb prog w).hash k
 |.inr ks=>tupleKeyHash (cb prog w) ks
def Qn:NK->Nat
 |.inl _=>1
 |.inr ks=>ks.length+1
def yi(k:bg):Nat:=(k.map Qn).sum
variable{A:cG}{E:aC->aI->Prop}{s:aI}
def Tq(hu:A.units<eL)(hk:Az prog w s.heap k v)(h:Q (tu w prog k) {s with toks:=s.toks+Qn k}):bA (bH prog w) A (pyHash v) Q E s:=by
 cases k with
 |inl k=>exact(cb prog w).pyHash hk h
 |inr ks=>obtain⟨b,rfl,q⟩:=hk;exact wpAny_pyHash_tuple hu q h
def Tr{ks:bg}(hu:A.units+4<eL)(hk:c7 prog w s.heap ks a)(h:Q (reduceHash (dQ (ks.map (tu w prog)))) {s with toks:=s.toks+(yi ks+1)}):
  bA (bH prog w) A (pyHash (.ref a)) Q E s:=by
 obtain⟨o,items,n,ho,hc,hd,hi⟩:=hk;have hT:s.TypeIs (.ref a) "tuple":=⟨o,ho,hc⟩;unfold pyHash
 first|unfold pyHashByItsType|skip
 first|refine aA (wpAny_cRoomFor_or (.inr (by lia)) ?_)|skip
 refine aA (gL hT F.slot_tuple_hash.lookup ?_);show bA _ _ (if(some (Value.builtin "tuple.__hash__")==some cE)=true then _ else _) Q E s;rw[aJ (by rw[beq_builtin_none];exact Bool.false_ne_true)];refine aA (gL hT F.slot_tuple_hash.lookup ?_);show bA _ _ (callSpecialIfBoundUnlessNone? (.ref a) "__hash__" _>>=_) Q E s;refine aA (wpAny_callSpecialIfBoundUnlessNone?_slot hT F.slot_tuple_hash (cU F.slot_tuple_hash hT F.entry_tuple_hash ?_ (F.args_tuple_hash_1 _)));show bA _ _ (iT (.ref a)>>=_) _ _ s;refine aA (mG ho hd ?_);refine aA ?_;rw[<-fL];refine eC _
  (λrest (b:Array Int) s'=>∃done left,ks=done++left/\NItems prog w s.heap left rest/\b.toList=done.map (tu w prog)/\s'={s with toks:=s.toks+yi done})
  _ ?_ ?_ _ _ ⟨[],ks,rfl,hi,rfl,rfl⟩
 ·rintro x rest b s' ⟨done,left,rfl,hl,hb,rfl⟩
  cases left with
  |nil=>cases (show x::rest=[]from hl)
  |cons k ks'=>
   obtain⟨v,t,e,h1,hl'⟩:=hl;cases e;refine aA (Tq (by show A.units+_<eL;lia) h1 ?_)
   first
    |exact aB ⟨done++[k],ks',by simp,hl',by simp[hb],by simp[yi,nJ]⟩
    |exact aA (aB (aB ⟨done++[k],ks',by simp,hl',by simp[hb],by simp[yi,nJ]⟩))
 ·rintro b s' ⟨done,left,rfl,hl,hb,rfl⟩
  cases left with
  |cons k ks'=>obtain⟨v,t,e,_⟩:=hl;cases e
  |nil=>
  rw[cA]at h;show bA _ _ (retInt (dQ b.toList)) _ _ _;rw[hb];refine wpAny_ret_mkInt ?_;show bA _ _ (if(decide (-(2:Int) ^ 63<=dQ (done.map (tu w prog))) && decide (dQ (done.map (tu w prog))<2 ^ 63))=true then _ else _) Q E _;unfold reduceHash at h
  by_cases hr:(decide (-(2:Int) ^ 63<=dQ (done.map (tu w prog))) && decide (dQ (done.map (tu w prog))<2 ^ 63))=true
  ·rw[aG hr];rw[aG hr]at h;exact aB (by simpa[nJ]using h)
  ·rw[aJ hr];rw[aJ hr]at h;exact aA (jS (aB (by simpa[nJ]using h)))
def Ts(hk:hV (cb prog w) s.heap ks a)(h:Q true s):bA (bH prog w) A (oZ (n+1) (.ref a)) Q E s:=by
 have hT:=hk.typeIs;obtain⟨o,items,n,ho,_,hd,hi⟩:=hk;unfold oZ;refine aA (gL hT F.slot_tuple_eq.lookup ?_);show bA _ _ (isInstance (.ref a) (.type "tuple")>>=_) _ _ s;refine aA (hG hT kY ?_);simp only[dJ,Bool.false_eq_true,if_false];refine aA (iU ho hd ?_);refine aA ?_;show bA _ _ (forIn items _ _) _ _ s;rw[<-fL];refine eC _ (λrest r s'=>r.1=none/\s'=s/\∀v∈rest,carriedByValue v=true) _ ?_ ?_ _ _ ⟨rfl,rfl,hi.byValue⟩
 ·rintro v rest r s' ⟨hr,rfl,hall⟩
  rw[eqIsQuiet_byValue _ (hall v aN)];refine aA (aB ?_);simp only[dJ,Bool.false_eq_true,if_false];exact aB ⟨rfl,rfl,λu hu'=>hall u (aK _ hu')⟩
 ·rintro ⟨r1,r2⟩ s' ⟨hr,rfl,_⟩
  simp only at hr;subst hr;exact aB h
def Dn(hk:c7 prog w s.heap ks a)(h:Q true s):bA (bH prog w) A (oZ 8 (.ref a)) Q E s:=by
 obtain⟨o,items,n,ho,hc,hd,hi⟩:=hk;have hT:s.TypeIs (.ref a) "tuple":=⟨o,ho,hc⟩;unfold oZ;refine aA (gL hT F.slot_tuple_eq.lookup ?_);show bA _ _ (isInstance (.ref a) (.type "tuple")>>=_) _ _ s;refine aA (hG hT kY ?_);simp only[dJ,Bool.false_eq_true,if_false];refine aA (iU ho hd ?_);refine aA ?_;show bA _ _ (forIn items _ _) _ _ s;rw[<-fL];refine eC _ (λrest r s'=>r.1=none/\s'=s/\∃left,NItems prog w s.heap left rest) _ ?_ ?_ _ _ ⟨rfl,rfl,ks,hi⟩
 ·rintro v rest r s' ⟨hr,rfl,left,hl⟩
  cases left with
  |nil=>cases (show v::rest=[]from hl)
  |cons k ks'=>
   obtain⟨v',t,e,h1,hl'⟩:=hl;cases e;refine aA ?_;have go:bA (bH prog w) A (oZ 7 v) (λb s''=>b=true/\s''=s') E s':=by
    cases k with
    |inl k=>rw[eqIsQuiet_byValue _ ((cb prog w).byValue _ _ h1)];exact aB ⟨rfl,rfl⟩
    |inr ys=>obtain⟨b,rfl,q⟩:=h1;exact Ts q ⟨rfl,rfl⟩
   refine bU go (λb s'' ⟨e1,e2⟩=>?_) λ_ _ q=>q;subst e1 e2;simp only[dJ,Bool.false_eq_true,if_false];exact aB ⟨rfl,rfl,ks',hl'⟩
 ·rintro ⟨r1,r2⟩ s' ⟨hr,rfl,_⟩
  simp only at hr;subst hr;exact aB h
def Fs(hu:A.units<eL)(hk:Cr k v=true)(hb:s.heap.IsTuple b its)(h:Q false s):bA (bH prog w) A (eqBool v (.ref b)) Q E s/\bA (bH prog w) A (eqBool (.ref b) v) Q E s:=by
 rcases c9 hk with ⟨i,t,rfl,rfl⟩|⟨x,t,rfl,rfl⟩
 ·exact⟨SeqAt.EqAt.int_tuple i t hb hu _ _ _ _ h,SeqAt.EqAt.tuple_int i t hb hu _ _ _ _ h⟩
 ·exact⟨SeqAt.EqAt.str_tuple x t hb hu _ _ _ _ h,SeqAt.EqAt.tuple_str x t hb hu _ _ _ _ h⟩
def Sm(hu:A.units<eL)(hx:Az prog w s.heap x u)(hy:Az prog w s.heap y v)(h:Q (decide (x=y)) s):bA (bH prog w) A (eqBool u v) Q E s:=by
 cases x with
 |inl a=>
  cases y with
  |inl b=>exact(cb prog w).eqBool hx hy (by
    have e:decide (a=b)=decide ((mB a:NK)=mB b):=by by_cases q:a=b<;>simp[q]
    rw[e];exact h)
  |inr ys=>
   obtain⟨b,rfl,o,its,n,h1,h2,h3,_⟩:=hy;exact(Fs hu hx ⟨o,h1,h2,n,h3⟩ h).1
 |inr xs=>
  cases y with
  |inl b=>
   obtain⟨c,rfl,o,its,n,h1,h2,h3,_⟩:=hx;exact(Fs hu hy ⟨o,h1,h2,n,h3⟩ h).2
  |inr ys=>
   obtain⟨b,rfl,q⟩:=hx;obtain⟨c,rfl,q'⟩:=hy;exact wpAny_eqBool_tuple hu q q' (by
    have e:decide (xs=ys)=decide ((lG xs:NK)=lG ys):=by by_cases q:xs=ys<;>simp[q]
    rw[e];exact h)
theorem NItems.length:∀{x:bg}{vs:List aC},NItems prog w h x vs->x.length=vs.length
 |[],vs,e=>by rw[show vs=[]from e];rfl
 |_::_,_,⟨v,t,e,_,h2⟩=>by rw[e,aE,aE,NItems.length h2]
def O4(hu:A.units+2<eL)(hx:c7 prog w s.heap x a)(hy:c7 prog w s.heap y b)(h:P (.done (.ret (.bool (decide (x=y))))) s):
  bA (bH prog w) A (Builtin.«tuple.__eq__» ⟨[.ref a,.ref b],[]⟩) P E s:=by
 obtain⟨oa,xs,na,hoa,hca,hda,hia⟩:=hx;obtain⟨ob,ys,nb,hob,hcb,hdb,hib⟩:=hy;have hTb:s.TypeIs (.ref b) "tuple":=⟨ob,hob,hcb⟩;show bA _ _ (isInstance (.ref b) (.type "tuple")>>=_) _ _ s;refine aA (hG hTb kY ?_);simp only[dJ,Bool.false_eq_true,if_false];refine aA (mG hoa hda ?_);refine aA (mG hob hdb ?_);refine aA ?_;refine eC _
  (λrest r s'=>r.1=none/\s'=s/\∃x' y' xs' ys',rest=List.zip xs' ys'/\NItems prog w s.heap x' xs'/\NItems prog w s.heap y' ys'/\decide (x'=y')=decide (x=y)/\(xs'.length==ys'.length)=(xs.size==ys.size))
  _ ?_ ?_ _ _ ⟨rfl,rfl,x,y,xs.toList,ys.toList,rfl,hia,hib,rfl,by simp⟩
 ·rintro ⟨u,v⟩ rest r s' ⟨hr,rfl,x',y',xs',ys',hz,hx',hy',hdec,hlen⟩
  cases x' with
  |nil=>rw[show xs'=[]from hx']at hz;simp at hz
  |cons k1 x''=>
   cases y' with
   |nil=>rw[show ys'=[]from hy']at hz;simp at hz
   |cons k2 y''=>
    obtain⟨u',xs'',rfl,h1,hx''⟩:=hx';obtain⟨v',ys'',rfl,h2,hy''⟩:=hy';simp only[jT,List.cons.injEq,Prod.mk.injEq]at hz;obtain⟨⟨rfl,rfl⟩,rfl⟩:=hz;refine aA (Sm (by lia) h1 h2 ?_)
    by_cases hk:k1=k2
    ·subst hk;rw[decide_eq_true rfl];simp only[dJ,Bool.false_eq_true,if_false];refine aB ⟨rfl,rfl,x'',y'',xs'',ys'',rfl,hx'',hy'',?_,by simpa using hlen⟩;rw[<-hdec]
     by_cases hxy:x''=y''
     ·simp[hxy]
     ·simp[hxy]
    ·rw[decide_eq_false hk];simp only[gD,if_true];have hf:decide (x=y)=false:=by rw[<-hdec];simp[hk]
     rw[hf]at h;exact aA (aB (aB (aB h)))
 ·rintro ⟨r1,r2⟩ s' ⟨hr,rfl,x',y',xs',ys',hz,hx',hy',hdec,hlen⟩
  simp only at hr;subst hr;refine aB ?_;have hfin:(xs.size==ys.size)=decide (x=y):=by
   rw[<-hdec,<-hlen,<-hx'.length,<-hy'.length];cases x' with
   |nil=>
    cases y' with
    |nil=>simp
    |cons _ _=>simp
   |cons _ _=>
    cases y' with
    |nil=>simp
    |cons _ _=>
     obtain⟨_,_,rfl,_⟩:=hx';obtain⟨_,_,rfl,_⟩:=hy';simp at hz
  show P (.done (.ret (.bool (xs.size==ys.size)))) s';rw[hfin];exact h
def Sn(hu:A.units+4<eL)(hx:c7 prog w s.heap x a)(hy:c7 prog w s.heap y b)(h:Q (decide (x=y)) s):
  bA (bH prog w) A (eqBool (.ref a) (.ref b)) Q E s:=by
 have tx:s.TypeIs (.ref a) "tuple":=let ⟨o,_,_,h1,h2,_⟩:=hx;⟨o,h1,h2⟩;have ty:s.TypeIs (.ref b) "tuple":=let ⟨o,_,_,h1,h2,_⟩:=hy;⟨o,h1,h2⟩;unfold eqBool
 try with_reducible refine cM ?_
 show bA _ _ (if(cQ a==cQ b)=true then _ else _) Q E s
 by_cases hab:(cQ a==cQ b)=true
 ·rw[aG hab];have e:a=b:=by have:=eq_of_beq hab;injection this
  subst e;obtain⟨o,items,n,ho,_,hd,hi⟩:=hx;obtain⟨o',items',n',ho',_,hd',hi'⟩:=hy;obtain rfl:o=o':=bS (ho.symm.trans ho');rw[hd]at hd';injection hd' with h1 _
  subst h1;obtain rfl:=hi.inj hi';exact aA (jS (aB (by simpa using h)))
 ·rw[aJ hab];exact aA (wpAny_richCompare_same_room (op:=.Eq) tx ty F.slot_tuple_eq
   (cU F.slot_tuple_eq tx F.entry_tuple_eq (O4 (by show A.units+1+2<eL;lia) hx hy ⟨_,rfl,(λe=>nomatch e),dX h⟩) (F.args_tuple_eq_2 _ _)) (by lia))
end
noncomputable def au(prog:bQ)(w:bZ):HeapKind prog w bg where
 is:=c7 prog w
 hash:=λk=>reduceHash (dQ (k.map (tu w prog)))
 draws:=λk=>yi k+1
 room:=λA=>A.units+4<eL
 inj:=λhx hy=>by
  obtain⟨o,items,n,ho,_,hd,hi⟩:=hx;obtain⟨o',items',n',ho',_,hd',hi'⟩:=hy;obtain rfl:o=o':=bS (ho.symm.trans ho');rw[hd]at hd';injection hd' with h1 _
  subst h1;exact hi.inj hi'
 keeps:=λx ho hd hs=>by
  obtain⟨o',items,n,ho',hc,hd',hi⟩:=x;refine⟨o',items,n,(hs.2 _ ?_).trans ho',hc,hd',hi.keeps ho hd hs⟩
  rintro rfl
  obtain rfl:=bS (ho'.symm.trans ho);rw[hd]at hd';exact nomatch hd'
 pyHash:=λhu hk h=>Tr hu hk h
 eqBool:=λhu hx hy h=>Sn hu hx hy h
 quiet:=λhk h=>Dn hk h
def ic{A:cG}(h:A.units+5<eL):(au prog w).room A.in1:=by show A.units+1+4<eL;lia
end L2
namespace L2
open PySem PySem.Spec PyProof.Rows
inductive V where
 |non|bl (b:Bool)|int (i:Int)|str (x:Str)|byt (b:Array UInt8)|flt (b:UInt64)|ref (a:Addr)|ty (n:String)
 deriving DecidableEq
def RelV:V->aC->Prop
 |.non,u=>u=cE
 |.bl b,u=>u=lB b
 |.int i,u=>∃t,u=gK i t
 |.str x,u=>∃t,u=oY x t
 |.byt b,u=>∃t,u=Value.bytes b t
 |.flt b,u=>∃t,u=Value.float b t
 |.ref a,u=>u=cQ a
 |.ty n,u=>u=gE n
abbrev Vals:List V->List aC->Prop:=Paired RelV
theorem Vals.length{xs:List V}{us:List aC}(r:Vals xs us):xs.length=us.length:=Paired.length r
theorem Vals.get:∀{xs:List V}{us:List aC}{i:Nat}{x:V},Vals xs us->xs[i]?=some x->∃u,us[i]?=some u/\RelV x u
 |_,_,_,_,.nil,e=>by simp at e
 |_,_,0,_,.cons r _,e=>by simp at e;subst e;exact⟨_,rfl,r⟩
 |_,_,i+1,x,.cons _ t,e=>by
  obtain⟨u,h1,h2⟩:=Vals.get (i:=i) (x:=x) t (by simpa using e);exact⟨u,by simpa using h1,h2⟩
theorem Vals.append:∀{xs ys:List V}{us ws:List aC},Vals xs us->Vals ys ws->Vals (xs++ys) (us++ws)
 |_,_,_,_,.nil,s=>s
 |_,_,_,_,.cons r t,s=>.cons r (Vals.append t s)
theorem Vals.take:∀{xs:List V}{us:List aC}(n:Nat),Vals xs us->Vals (xs.take n) (us.take n)
 |_,_,0,_=>.nil
 |_,_,_+1,.nil=>.nil
 |_,_,n+1,.cons r t=>.cons r (Vals.take n t)
theorem Vals.drop:∀{xs:List V}{us:List aC}(n:Nat),Vals xs us->Vals (xs.drop n) (us.drop n)
 |_,_,0,r=>r
 |_,_,_+1,.nil=>.nil
 |_,_,n+1,.cons _ t=>Vals.drop n t
def RelO:Option V->Option aC->Prop
 |some v,some u=>RelV v u
 |none,none=>True
 |_,_=>False
def KV:List (κ×V)->List (κ×aC)->Prop:=Paired λ(p:κ×V)(q:κ×aC)=>p.1=q.1/\RelV p.2 q.2
def kV:rn->V
 |.inl i=>.int i
 |.inr x=>.str x
inductive HO where
 |lst (xs:List V)
 |tup (xs:List V)
 |dK (kvs:List (rn×V))|dT (kvs:List (bg×V))
 |set (S:Int->Bool) (n:Nat)
 |ins (C dx:Addr) (fs:List (Str×V))
 |own (x:Addr)
 |xd (fs:List (Str×V))
 |met (f x:Addr)
 |rng (lo hi:Int)
 |frz (o:Obj) (u:HO)
 |tbl (q:Str)
 |ext (φ:Heap->Prop)
abbrev Hp:=Addr->Option HO
def upd(H:Hp)(a:Addr)(o:HO):Hp:=λb=>if b=a then some o else H b
def ar:upd H a o a=some o:=by unfold upd;rw[aG rfl]
def ak(h:b≠a):upd H a o b=H b:=by unfold upd;rw[aJ h]
def QP{H:Hp}{a b:Addr}{o u:HO}(h:H a=some o)(h':H b=some u)(d:o≠u):a≠b:=by
 intro e;subst e;rw[h]at h';exact d (bS h')
def aq{H:Hp}{a b:Addr}{o:HO}(h:H a=some o)(h':H b=none):a≠b:=by
 intro e;subst e;rw[h]at h';cases h'
def nkAt(H:Hp):NK->V->Prop
 |.inl k,v=>v=kV k
 |.inr ks,v=>∃b,v=.ref b/\H b=some (.tup (ks.map kV))
def NkL(H:Hp):bg->List V->Prop
 |[],vs=>vs=[]
 |k::r,vs=>∃v t,vs=v::t/\nkAt H k v/\NkL H r t
def TkAt(H:Hp)(k:bg)(b:Addr):Prop:=∃vs,H b=some (.tup vs)/\NkL H k vs
def nkAt.mono(ht:∀b xs,H b=some (.tup xs)->H' b=some (.tup xs)):∀{k:NK}{v:V},nkAt H k v->nkAt H' k v
 |.inl _,_,e=>e
 |.inr _,_,⟨b,e,q⟩=>⟨b,e,ht _ _ q⟩
theorem NkL.mono(ht:∀b xs,H b=some (.tup xs)->H' b=some (.tup xs)):∀{k:bg}{vs:List V},NkL H k vs->NkL H' k vs
 |[],_,e=>e
 |_::_,_,⟨v,t,e,q,r⟩=>⟨v,t,e,nkAt.mono ht q,NkL.mono ht r⟩
theorem TkAt.mono(ht:∀b xs,H b=some (.tup xs)->H' b=some (.tup xs))(h:TkAt H k b):TkAt H' k b:=
 let ⟨vs,h1,h2⟩:=h
 ⟨vs,ht _ _ h1,h2.mono ht⟩
def Trip(H:Hp)(q:Str):List aC->Prop
 |[]=>True
 |.int _ _::.int _ _::.ref c'::r=>(∃(oc:Obj) (vs:Array aC) (t:Tok),H c'=some (.frz oc (.own 0))/\oc.data=.fields vs/\vs[1]?=some (.str q t))/\Trip H q r
 |_=>False
def Trip.mono(hz:∀b o u,H b=some (.frz o u)->H' b=some (.frz o u))(l:List aC)(h:Trip H q l):Trip H' q l:=by
 fun_induction Trip H q l with
 |case1=>unfold Trip;trivial
 |case2 _ _ _ _ c' r ih=>
  obtain⟨⟨oc,vs,t,e1,e2⟩,h2⟩:=h;unfold Trip;exact⟨⟨oc,vs,t,hz _ _ _ e1,e2⟩,ih h2⟩
 |case3=>exact h.elim
section
variable(P:bQ)(w:bZ)
def ObjOk(H:Hp)(h:Heap)(a:Addr):HO->Prop
 |.lst xs=>xs.length<=aQ/\∃(its:List aC) (n:Nat),Vals xs its/\h.get? a=some {cls:=.type "list",data:=.seq its.toArray n}
 |.tup xs=>xs.length<=aQ/\∃its:List aC,Vals xs its/\IsTup h a its.toArray
 |.dK kvs=>kvs.length<=aQ/\(a==gF)=false/\∃vs,KV kvs vs/\h.DictOf (cb P w) a vs
 |.dT kvs=>kvs.length<=aQ/\(a==gF)=false/\∃xs:List (bg×Addr×aC),
   Paired (λ(p:bg×V)(q:bg×Addr×aC)=>p.1=q.1/\TkAt H p.1 q.2.1/\RelV p.2 q.2.2) kvs xs/\
   ∃o es ep,h.get? a=some o/\o.ExactDict/\o.data=.dict es ep/\es.toList=xs.map (entryOfKey (au P w))/\(xs.map (·.1)).Nodup
 |.set S n=>h.SetOf (kI P w) a S n
 |.ins C dx fs=>H dx=some (.own a)/\fs.length<=1000/\dx≠a/\h.get? a=some (PySem.W.instObj C dx)/\
   ∃mA,h.Ns1 dx mA/\(∀f,RelO (fs.lookup f) (mA f))/\PySem.Within mA (fs.map (·.1))
 |.own _=>∃o,h.get? a=some o
 |.xd fs=>∃mA,h.Ns1 a mA/\∀f,RelO (fs.lookup f) (mA f)
 |.rng lo hi=>∃t u v,h.get? a=some {cls:=.type "range",data:=.fields #[.int lo t,.int hi u,.int 1 v]}
 |.frz o u=>h.get? a=some o/\ObjOk H h a u
 |.tbl q=>∃ps:Array aC,h.get? a=some {cls:=.none,data:=.fields ps}/\Trip H q ps.toList
 |.met f x=>h.get? a=some (nC (.ref f) (.ref x))
 |.ext φ=>φ h/\(∃o,h.get? a=some o)/\∀h1 h2:Heap,φ h1->(∀o,h1.get? a=some o->h2.get? a=some o)->φ h2
def HOk(H:Hp)(h:Heap):Prop:=∀a o,H a=some o->ObjOk P w H h a o
end
section
variable{P:bQ}{w:bZ}{H H':Hp}{h h':Heap}{a:Addr}{o:HO}
theorem ObjOk.lt(x:ObjOk P w H h a o):a<h.objs.size:=by
 cases o with
 |lst xs=>obtain⟨_,_,_,_,e⟩:=x;exact aT e
 |tup xs=>obtain⟨_,_,_,p⟩:=x;exact p.lt
 |dK kvs=>obtain⟨_,_,_,_,o,_,_,e,_⟩:=x;exact aT e
 |dT kvs=>obtain⟨_,_,_,_,o,_,_,e,_⟩:=x;exact aT e
 |set S n=>obtain⟨o,_,_,_,e,_⟩:=x;exact aT e
 |ins C dx fs=>obtain⟨_,_,_,e,_⟩:=x;exact aT e
 |own y=>obtain⟨_,e⟩:=x;exact aT e
 |xd fs=>obtain⟨_,⟨_,_,_,e,_⟩,_⟩:=x;exact aT e
 |rng lo hi=>obtain⟨_,_,_,e⟩:=x;exact aT e
 |frz ob u=>obtain⟨e,_⟩:=x;exact aT e
 |tbl q=>obtain⟨ps,e,_⟩:=x;exact aT e
 |met f y=>exact aT (show h.get? a=some _ from x)
 |ext φ=>obtain⟨_,⟨_,e⟩,_⟩:=x;exact aT e
theorem Paired.mapP:∀{l₁:List α}{l₂:List β},Paired F l₁ l₂->(∀a b,F a b->G a b)->Paired G l₁ l₂
 |_,_,.nil,_=>.nil
 |_,_,.cons r t,f=>.cons (f _ _ r) (Paired.mapP t f)
def ObjOk.stay(x:ObjOk P w H h a o)(k:∀b u,(b=a\/H b=some (.own a))->h.get? b=some u->h'.get? b=some u)
  (ho:∀b,H b=some (.own a)->H' b=some (.own a))(ht:∀b xs,H b=some (.tup xs)->H' b=some (.tup xs))(hz:∀b o u,H b=some (.frz o u)->H' b=some (.frz o u):=by exact λ_ _ _ q=>q):ObjOk P w H' h' a o:=by
 induction o with
 |lst xs=>obtain⟨z,its,n,r,e⟩:=x;exact⟨z,its,n,r,k _ _ (.inl rfl) e⟩
 |tup xs=>obtain⟨z,its,r,ob,e,c⟩:=x;exact⟨z,its,r,ob,k _ _ (.inl rfl) e,c⟩
 |dK kvs=>obtain⟨z,y,vs,r,ob,es,ep,e,c⟩:=x;exact⟨z,y,vs,r,ob,es,ep,k _ _ (.inl rfl) e,c⟩
 |dT kvs=>
  obtain⟨z,y,xs,r,ob,es,ep,e,c⟩:=x;exact⟨z,y,xs,Paired.mapP r λp q z=>⟨z.1,z.2.1.mono ht,z.2.2⟩,ob,es,ep,k _ _ (.inl rfl) e,c⟩
 |set S n=>obtain⟨ob,es,ep,t,e,c⟩:=x;exact⟨ob,es,ep,t,k _ _ (.inl rfl) e,c⟩
 |ins C dx fs=>
  obtain⟨d,z,ne,e,mA,⟨od,es,ep,e2,c⟩,r⟩:=x;exact⟨ho _ d,z,ne,k _ _ (.inl rfl) e,mA,⟨od,es,ep,k _ _ (.inr d) e2,c⟩,r⟩
 |own y=>obtain⟨ob,e⟩:=x;exact⟨ob,k _ _ (.inl rfl) e⟩
 |xd fs=>obtain⟨mA,⟨od,es,ep,e,c⟩,r⟩:=x;exact⟨mA,⟨od,es,ep,k _ _ (.inl rfl) e,c⟩,r⟩
 |rng lo hi=>obtain⟨t,u,v,e⟩:=x;exact⟨t,u,v,k _ _ (.inl rfl) e⟩
 |frz ob u ih=>obtain⟨e,q⟩:=x;exact⟨k _ _ (.inl rfl) e,ih q⟩
 |tbl q=>
  obtain⟨ps,e,r⟩:=x;exact⟨ps,k a _ (.inl rfl) e,r.mono hz⟩
 |met f y=>
  have e:h.get? a=some (nC (.ref f) (.ref y)):=x;show h'.get? a=some (nC (.ref f) (.ref y));exact k a _ (.inl rfl) e
 |ext φ=>obtain⟨p,⟨o,e⟩,st⟩:=x;exact⟨st _ _ p λo q=>k _ _ (.inl rfl) q,⟨o,k _ _ (.inl rfl) e⟩,st⟩
theorem HOk.lt(x:HOk P w H h)(e:H a=some o):a<h.objs.size:=(x a o e).lt
def HOk.fresh(x:HOk P w H h)(e:h.objs.size<=a):H a=none:=by
 cases q:H a with
 |none=>rfl
 |some u=>exact absurd (bI (x.lt q) e) (cI _)
def HOk.kept(x:HOk P w H h)(k:∀b u,h.get? b=some u->h'.get? b=some u):HOk P w H h':=λa o e=>
 (x a o e).stay (λb u _ q=>k b u q) (λ_ q=>q) λ_ _ q=>q
def HOk.laid(x:HOk P w H h)(k:∀b u,h.get? b=some u->h'.get? b=some u)(hp:h.objs.size<=a)(new:ObjOk P w (upd H a o) h' a o):HOk P w (upd H a o) h':=λb u e=>by
 have hn:=x.fresh hp
 by_cases hb:b=a
 ·subst hb;rw[ar]at e;cases e;exact new
 ·rw[ak hb]at e;exact(x b u e).stay (λc v _ q=>k c v q) (λc q=>by rw[ak (aq q hn)];exact q) (λc xs q=>by rw[ak (aq q hn)];exact q) λc ob u q=>by rw[ak (aq q hn)];exact q
end
def Rd(H:Hp)(a:Addr)(u:HO):Prop:=H a=some u\/∃o,H a=some (.frz o u)
def Rd.ok(r:Rd H a u)(x:HOk P w H h):ObjOk P w H h a u:=by
 rcases r with r|⟨o,r⟩
 ·exact x a u r
 ·obtain⟨_,q⟩:=x a _ r;exact q
def PZ:Option HO->Prop
 |some (.lst _)=>True
 |some (.dK _)=>True
 |some (.dT _)=>True
 |some (.set _ _)=>True
 |some (.ins _ _ _)=>True
 |some (.ext _)=>True
 |_=>False
section
variable{P:bQ}{w:bZ}{H:Hp}{h h':Heap}{x e:Addr}{o':HO}
def HOk.write(ok:HOk P w H h)(mu:PZ (H x))(he:e=x\/H e=some (.own x))(k:∀b u,b≠e->h.get? b=some u->h'.get? b=some u)(heo:∃u,h'.get? e=some u)
  (new:ObjOk P w (upd H x o') h' x o'):HOk P w (upd H x o') h':=λb u q=>by
 have nown:∀c y,H c=some (.own y)->c≠x:=λc y r z=>by subst z;rw[r]at mu;exact mu
 have ntup:∀c xs,H c=some (.tup xs)->c≠x:=λc xs r z=>by subst z;rw[r]at mu;exact mu
 have nfrz:∀c ob v,H c=some (.frz ob v)->c≠x:=λc ob v r z=>by subst z;rw[r]at mu;exact mu
 by_cases hb:b=x
 ·subst hb;rw[ar]at q;cases q;exact new
 ·rw[ak hb]at q
  by_cases hbe:b=e
  ·have q':H b=some (.own x):=by
    rcases he with z|z
    ·exact absurd (hbe.trans z) hb
    ·rw[hbe];exact z
   rw[q]at q';cases q';obtain⟨v,hv⟩:=heo;exact⟨v,by rw[hbe];exact hv⟩
  ·refine(ok b u q).stay (λc v hc r=>k c v ?_ r) (λc r=>by rw[ak (nown c b r)];exact r) (λc xs r=>by rw[ak (ntup c xs r)];exact r) λc ob v r=>by rw[ak (nfrz c ob v r)];exact r
   rcases hc with rfl|hc
   ·exact hbe
   ·rintro rfl
    rcases he with z|z
    ·exact nown c b hc z
    ·rw[hc]at z;cases z;exact hb rfl
end
structure Un(fs ex:List Addr)(H H':Hp)(h h':Heap):Prop where
 keep:∀b o,h.get? b=some o->H b=none->b∉fs->b∉ex->h'.get? b=some o
 slot:∀b o,h.get? b=some o->H b=none->b∈fs->b∉ex->∃sl,h'.get? b=some {o with slots:=sl}
 free:∀b o,h.get? b=some o->H b=none->b∉ex->H' b=none
 there:∀b o,h.get? b=some o->b∉ex->∃o',h'.get? b=some o'
 tups:∀b xs,H b=some (.tup xs)->H' b=some (.tup xs)
 frzs:∀b o u,H b=some (.frz o u)->H' b=some (.frz o u)
 tbls:∀b q,H b=some (.tbl q)->H' b=some (.tbl q)
section
variable{fs fs' ex ex':List Addr}{H H1 H2:Hp}{h h1 h2 h':Heap}{a x e:Addr}{o:HO}
def Un.any(u:Un fs ex H H1 h h1)(q:h.get? b=some ob)(n:H b=none)(hx:b∉ex):∃sl,h1.get? b=some {ob with slots:=sl}:=by
 by_cases hb:b∈fs
 ·exact u.slot b ob q n hb hx
 ·exact⟨ob.slots,u.keep b ob q n hb hx⟩
def Un.trans(a:Un fs ex H H1 h h1)(b:Un fs ex H1 H2 h1 h2):Un fs ex H H2 h h2 where
 keep:=λc ob q n hc hx=>b.keep c ob (a.keep c ob q n hc hx) (a.free c ob q n hx) hc hx
 slot:=λc ob q n hc hx=>by
  obtain⟨sl,e1⟩:=a.slot c ob q n hc hx;obtain⟨sl',e2⟩:=b.slot c _ e1 (a.free c ob q n hx) hc hx;exact⟨sl',e2⟩
 free:=λc ob q n hx=>by
  obtain⟨o',e1⟩:=a.there c ob q hx;exact b.free c o' e1 (a.free c ob q n hx) hx
 there:=λc ob q hx=>by
  obtain⟨o',e1⟩:=a.there c ob q hx;exact b.there c o' e1 hx
 tups:=λc xs q=>b.tups c xs (a.tups c xs q)
 frzs:=λc ob xs q=>b.frzs c ob xs (a.frzs c ob xs q)
 tbls:=λp q z=>b.tbls p q (a.tbls p q z)
def Un.kept(k:∀b u,h.get? b=some u->h'.get? b=some u):Un fs ex H H h h':=
 ⟨λb ob q _ _ _=>k b ob q,λb ob q _ _ _=>⟨ob.slots,k b ob q⟩,λ_ _ _ n _=>n,λb ob q _=>⟨ob,k b ob q⟩,λ_ _ q=>q,λ_ _ _ q=>q,λ_ _ q=>q⟩
def Un.refl:Un fs ex H H h h:=Un.kept λ_ _ q=>q
def Un.laid(k:∀b u,h.get? b=some u->h'.get? b=some u)(hp:h.objs.size<=a)(hn:H a=none):Un fs ex H (upd H a o) h h' where
 keep:=λb u q _ _ _=>k b u q
 slot:=λb u q _ _ _=>⟨u.slots,k b u q⟩
 free:=λb u q n _=>by rw[ak (bJ (bI (aT q) hp))];exact n
 there:=λb u q _=>⟨u,k b u q⟩
 tups:=λb xs q=>by rw[ak (aq q hn)];exact q
 frzs:=λb u xs q=>by rw[ak (aq q hn)];exact q
 tbls:=λb _ q=>by rw[ak (aq q hn)];exact q
def Un.write(mu:PZ (H x))(he:e=x\/H e=some (.own x))(k:∀b u,b≠e->h.get? b=some u->h'.get? b=some u)(heo:∃u,h'.get? e=some u):Un fs ex H (upd H x o) h h':=by
 have hx:∀b,H b=none->b≠x:=λb n z=>by subst z;rw[n]at mu;exact mu
 have hb:∀b,H b=none->b≠e:=λb n z=>by
  subst z;rcases he with r|r
  ·exact hx b n r
  ·rw[n]at r;cases r
 have hm:∀b u,H b=some u->¬PZ (some u)->b≠x:=λb u q nm z=>by subst z;rw[q]at mu;exact nm mu
 refine⟨λb u q n _ _=>k b u (hb b n) q,λb u q n _ _=>⟨u.slots,k b u (hb b n) q⟩,λb u q n _=>by rw[ak (hx b n)];exact n,λb u q _=>?_,
  λb xs q=>by rw[ak (hm b _ q λz=>z)];exact q,λb u xs q=>by rw[ak (hm b _ q λz=>z)];exact q,λb _ q=>by rw[ak (hm b _ q λz=>z)];exact q⟩
 by_cases hbe:b=e
 ·subst hbe;exact heo
 ·exact⟨u,k b u hbe q⟩
end
def UV(h:Heap)(H:Hp):List Addr:=(aW h.objs.size).filter λa=>(H a).isSome
def Eo(h:Heap)(H:Hp):Heap:=PySem.W.hideAll h (UV h H)
def Ss(h:Heap)(H:Hp):(Eo h H).objs.size=h.objs.size:=PySem.W.hideAll_size _ _
def Wk{h:Heap}(e:h.get? b=some o)(n:H b=none):(Eo h H).get? b=some o:=
 PySem.W.hideAll_get _ e λhm=>by
  have q:(H b).isSome=true:=(List.mem_filter.mp hm).2;rw[n]at q;simp at q
def DY{h:Heap}(e:(Eo h H).get? b=some o):h.get? b=some o/\H b=none:=by
 have e':h.get? b=some o:=PySem.W.of_hideAll (UV h H) e;refine⟨e',?_⟩;cases q:H b with
 |none=>rfl
 |some x=>
  have hm:b∈UV h H:=List.mem_filter.mpr ⟨List.mem_range.mpr (aT e'),by simp[q]⟩;have z:(Eo h H).get? b=none:=PySem.W.hideAll_none (UV h H) hm;rw[z]at e;cases e
end L2
namespace L2
open PySem PySem.Spec PyProof.Rows
structure Mod(K:aU)(mg:Str->Option aC)(base:Heap):Prop where
 kin:K.In base
 glob:base.Ns cO mg
 blt:∃mb,base.Ns jU mb/\∀x:Str,x≠"__name__"->mb x=gO x
 nolimit:base.NoLimit
structure Cx where
 prog:bQ
 w:bZ
 K:aU
 mg:Str->Option aC
 base:Heap
 A:cG
 N:List Str
 s₀:aI
 H₀:Hp
 env:Env
 outer:List Env
 stack:List Env
 ex:List Addr
 fn:Str->Bool
 calm:Bool
 pn:List (Addr×Obj)
 xe:aC->aI->Prop
def El(l:List Env):List Addr:=l.filterMap (·.frame)
abbrev Cx.fs(X:Cx):List Addr:=El X.outer
def PV(sc:eI)(x:Str):Prop:=sc.names.lookup x=some .local\/sc.names.lookup x=some .cell\/sc.names.lookup x=some .free
def Us(sc:eI)(x:Str):Prop:=sc.names.lookup x=some .local\/sc.names.lookup x=some .cell
def WX(env:Env)(h:Heap)(m:Str->Option aC)(x:Str)(u:aC):Prop:=
 (env.kindOf x=some .local/\m x=some u)\/((env.kindOf x=some .cell\/env.kindOf x=some .free)/\∃c,env.cells.lookup x=some c/\h.IsCell c (some u))
structure Cx.Ok(X:Cx):Prop where
 mod:Mod X.K X.mg X.base
 kind:X.env.scope.kind=.function
 glob:X.env.globals=cO
 blt:X.env.builtins=jU
 above:X.s₀.heap.objs.size<=X.env.locals
 inj:∀x y c,X.env.cells.lookup x=some c->X.env.cells.lookup y=some c->x=y
 has:∀x,(X.env.kindOf x=some .cell\/X.env.kindOf x=some .free)->∃c,X.env.cells.lookup x=some c
 cab:∀x c,X.fn x=true->X.env.cells.lookup x=some c->X.s₀.heap.objs.size<=c
 hd:X.calm=true->X.A.handled=none
 frames:X.A.frames=some X.stack
 stk:X.stack=X.outer\/(X.stack=X.env::X.outer/\X.env.frame=some X.env.locals)
 exf:∀b∈X.ex,b≠X.env.locals/\∀x c,X.env.cells.lookup x=some c->c≠b
 bs:∀b o,X.base.get? b=some o->X.s₀.heap.get? b=some o/\X.H₀ b=none
 bsz:X.base.objs.size<=X.s₀.heap.objs.size
 noex:∀b o,X.base.get? b=some o->b∉X.ex
 exfs:∀b∈X.ex,b∉X.fs
 funs:X.s₀.heap.FunFrames X.base X.outer
 frf:∀b∈X.fs,X.H₀ b=none
structure Inv(X:Cx)(pins:List (Addr×Obj))(Z:List (Option V))(H:Hp)(s:aI):Prop where
 ok:X.Ok
 os:s.os=X.s₀.os
 bare:mC s.gens
 base:Un X.fs X.ex X.H₀ H X.s₀.heap s.heap
 loc:∃m,s.heap.Ns X.env.locals m/\∀(i:Nat)(x:Str)(v:V),X.N[i]?=some x->Z[i]?=some (some v)->PV X.env.scope x->∃u,RelV v u/\WX X.env s.heap m x u
 cell:∀x c,X.env.cells.lookup x=some c->∃v,s.heap.IsCell c v
 free:H X.env.locals=none
 freeC:∀x c,X.env.cells.lookup x=some c->H c=none\/(X.fn x=false/\∃o,H c=some (.frz o (.own 0)))
 pin:∀p∈X.pn++pins,s.heap.get? p.1=some p.2/\H p.1=none/\p.1≠X.env.locals/\p.1∉X.fs/\∀v,p.2.data≠.cell v
 hok:HOk X.prog X.w H s.heap
 len:Z.length=X.N.length
section
variable{X:Cx}{pins:List (Addr×Obj)}{Z:List (Option V)}{H H':Hp}{s:aI}{h':Heap}
def Cx.Ok.nofr(ok:X.Ok)(e:X.base.get? b=some o):b∉X.fs:=λhb=>by
 have:=(ok.funs.mem hb).1;rw[e]at this;cases this
theorem Inv.bs(I:Inv X pins Z H s):∀b o,X.base.get? b=some o->s.heap.get? b=some o/\H b=none:=λb o e=>
 ⟨I.base.keep b o (I.ok.bs b o e).1 (I.ok.bs b o e).2 (I.ok.nofr e) (I.ok.noex b o e),I.base.free b o (I.ok.bs b o e).1 (I.ok.bs b o e).2 (I.ok.noex b o e)⟩
def Inv.bk(I:Inv X pins Z H s):∀b o,X.base.get? b=some o->s.heap.get? b=some o:=λb o e=>(I.bs b o e).1
theorem Inv.mod(I:Inv X pins Z H s):Mod X.K X.mg X.base:=I.ok.mod
def Inv.kIn(I:Inv X pins Z H s):X.K.In s.heap:=I.ok.mod.kin.keeps I.bk
theorem Inv.lt(I:Inv X pins Z H s):X.env.locals<s.heap.objs.size:=let ⟨_,hn,_⟩:=I.loc;hn.lt
def Inv.sz(I:Inv X pins Z H s):X.s₀.heap.objs.size<=s.heap.objs.size:=cB I.ok.above (oC I.lt)
def Inv.nofs(I:Inv X pins Z H s)(h:s.heap.objs.size<=a):a∉X.fs:=λhb=>by
 obtain⟨_,o,ho,_⟩:=I.ok.funs.mem hb;exact absurd (bI (aT ho) (cB I.sz h)) (cI _)
def Inv.cne(I:Inv X pins Z H s):∀x c,X.env.cells.lookup x=some c->c≠X.env.locals:=λx c e z=>by
 obtain⟨v,o,ho,hd⟩:=I.cell x c e;obtain⟨m,⟨o',es,ep,ho',hd',_⟩,_⟩:=I.loc;rw[z,ho']at ho;cases ho;rw[hd']at hd;cases hd
theorem Inv.funs(I:Inv X pins Z H s):s.heap.FunFrames X.base X.outer:=by
 have all:∀(l:List Env),(∀b∈El l,b∈X.fs)->X.s₀.heap.FunFrames X.base l->s.heap.FunFrames X.base l:=by
  intro l;induction l with
  |nil=>intro _ _;trivial
  |cons env r ih=>
   intro hs hl;obtain⟨hk,⟨L,o,hf,hn,ho,hd⟩,hr⟩:=hl;have hL:L∈X.fs:=hs L (by unfold El;rw[fF,hf];exact aN);obtain⟨sl,e⟩:=I.base.slot L o ho (I.ok.frf L hL) hL λz=>I.ok.exfs L z hL;exact⟨hk,⟨L,_,hf,hn,e,hd⟩,ih (λb hb=>hs b (by unfold El;rw[fF,hf];exact aK _ hb)) hr⟩
 exact all X.outer (λ_ hb=>hb) I.ok.funs
theorem Inv.stack(I:Inv X pins Z H s):s.heap.FunFrames X.base X.stack:=by
 rcases I.ok.stk with e|⟨e,hf⟩
 ·rw[e];exact I.funs
 ·rw[e];obtain⟨m,hn,_⟩:=I.loc;refine .cons (by rw[I.ok.kind];decide) hf hn ?_ I.funs;exact lO (cB I.ok.bsz I.ok.above)
def Inv.stkSub(I:Inv X pins Z H s):∀b∈El X.stack,b∈X.env.locals::X.fs:=λb hb=>by
 rcases I.ok.stk with e|⟨e,hf⟩
 ·rw[e]at hb;exact aK _ hb
 ·rw[e]at hb;unfold El at hb;rw[fF,hf]at hb;exact hb
def Inv.stkFree(I:Inv X pins Z H s):∀b∈El X.stack,H b=none:=λb hb=>by
 rcases List.mem_cons.mp (I.stkSub b hb)with e|hb
 ·rw[e];exact I.free
 ·obtain⟨_,o,ho,_⟩:=I.ok.funs.mem hb;exact I.base.free b o ho (I.ok.frf b hb) λz=>I.ok.exfs b z hb
def Inv.step{g':Array GenState}{t':Nat}{d':Drawn}{ch:List Addr}(I:Inv X pins Z H s)
  (hch:∀b∈ch,(b∈X.ex\/X.s₀.heap.objs.size<=b)/\b≠X.env.locals/\(∀x c,X.env.cells.lookup x=some c->c≠b)/\∀p∈X.pn++pins,p.1≠b)
  (keep:∀b o,b≠X.env.locals->b∉X.fs->b∉ch->s.heap.get? b=some o->H b=none->h'.get? b=some o)
  (slot:∀b o,b≠X.env.locals->b∈X.fs->b∉ch->s.heap.get? b=some o->H b=none->∃sl,h'.get? b=some {o with slots:=sl}) (free:∀b o,b∉ch->s.heap.get? b=some o->H b=none->H' b=none)
  (there:∀b o,b∉ch->s.heap.get? b=some o->∃o',h'.get? b=some o')
  (tups:∀b xs,H b=some (.tup xs)->H' b=some (.tup xs)) (frzs:∀b o u,H b=some (.frz o u)->H' b=some (.frz o u)) (tbls:∀b q,H b=some (.tbl q)->H' b=some (.tbl q))
  (ns:∀m,s.heap.Ns X.env.locals m->h'.Ns X.env.locals m) (hok:HOk X.prog X.w H' h') (hg:mC g'):
  Inv X pins Z H' {s with heap:=h',gens:=g',drawn:=d',toks:=t'}:=by
 have neL:∀b o,X.s₀.heap.get? b=some o->b≠X.env.locals:=λb o e=>bJ (bI (aT e) I.ok.above);have neC:∀b o,X.s₀.heap.get? b=some o->b∉X.ex->b∉ch:=λb o e hx hb=>by
  rcases(hch b hb).1 with z|z
  ·exact hx z
  ·exact absurd (bI (aT e) z) (cI _)
 have cellK:∀x c,X.env.cells.lookup x=some c->∀v,s.heap.IsCell c v->h'.IsCell c v:=λx c e v ⟨o,ho,hd⟩=>by
  have nch:c∉ch:=λz=>(hch c z).2.2.1 x c e rfl;rcases I.freeC x c e with fr|⟨_,ob,fr⟩
  ·by_cases hc:c∈X.fs
   ·obtain⟨sl,q⟩:=slot c o (I.cne x c e) hc nch ho fr;exact⟨_,q,hd⟩
   ·exact⟨o,keep c o (I.cne x c e) hc nch ho fr,hd⟩
  ·obtain⟨q1,_⟩:=I.hok c _ fr;obtain⟨q2,_⟩:=hok c _ (frzs c ob _ fr);rw[ho]at q1;cases q1;exact⟨o,q2,hd⟩
 refine⟨I.ok,I.os,hg,⟨λb o e n hb hx=>?_,λb o e n hb hx=>?_,λb o e n hx=>?_,λb o e hx=>?_,λb xs e=>tups b xs (I.base.tups b xs e),λb o xs e=>frzs b o xs (I.base.frzs b o xs e),λb q e=>tbls b q (I.base.tbls b q e)⟩,?_,λx c e=>?_,?_,λx c e=>?_,λp hp=>?_,hok,I.len⟩
 ·exact keep b o (neL b o e) hb (neC b o e hx) (I.base.keep b o e n hb hx) (I.base.free b o e n hx)
 ·obtain⟨sl,e1⟩:=I.base.slot b o e n hb hx;obtain⟨sl',e2⟩:=slot b _ (neL b o e) hb (neC b o e hx) e1 (I.base.free b o e n hx);exact⟨sl',e2⟩
 ·obtain⟨o',e1⟩:=I.base.there b o e hx;exact free b o' (neC b o e hx) e1 (I.base.free b o e n hx)
 ·obtain⟨o',e1⟩:=I.base.there b o e hx;exact there b o' (neC b o e hx) e1
 ·obtain⟨m,hn,hl⟩:=I.loc;refine⟨m,ns m hn,λi x v e1 e2 e3=>?_⟩;obtain⟨u,r,l⟩:=hl i x v e1 e2 e3;refine⟨u,r,?_⟩;rcases l with l|⟨k,c,e,z⟩
  ·exact .inl l
  ·exact .inr ⟨k,c,e,cellK x c e _ z⟩
 ·obtain⟨v,z⟩:=I.cell x c e;exact⟨v,cellK x c e v z⟩
 ·obtain⟨m,⟨o,_,_,ho,_⟩,_⟩:=I.loc;exact free _ o (λz=>(hch _ z).2.1 rfl) ho I.free
 ·obtain⟨v,o,ho,hd⟩:=I.cell x c e;rcases I.freeC x c e with fr|⟨hf,ob,fr⟩
  ·exact .inl (free c o (λz=>(hch c z).2.2.1 x c e rfl) ho fr)
  ·exact .inr ⟨hf,ob,frzs c ob _ fr⟩
 ·obtain⟨e,n,ne,nf,d⟩:=I.pin p hp;have nch:p.1∉ch:=λz=>(hch p.1 z).2.2.2 p hp rfl;exact⟨keep p.1 p.2 ne nf nch e n,free p.1 p.2 nch e n,ne,nf,d⟩
def Inv.un(I:Inv X pins Z H s)(u:Un X.fs [] H H' s.heap h')(hok:HOk X.prog X.w H' h'):Inv X pins Z H' {s with heap:=h',toks:=t'}:=by
 obtain⟨m,⟨o,es,ep,ho,r⟩,_⟩:=id I.loc;obtain⟨sl,hL⟩:=u.any ho I.free (by simp);exact I.step (g':=s.gens) (d':=s.drawn) (ch:=[]) (λ_ z=>nomatch z) (λb o _ hb _ e n=>u.keep b o e n hb (by simp)) (λb o _ hb _ e n=>u.slot b o e n hb (by simp)) (λb o _ e n=>u.free b o e n (by simp)) (λb o _ e=>u.there b o e (by simp)) u.tups u.frzs u.tbls (λm' hm=>by
  obtain⟨o',es',ep',ho',r'⟩:=hm;rw[ho]at ho';cases ho';exact⟨_,es',ep',hL,r'⟩) hok I.bare
def Inv.call(I:Inv X pins Z H s)(u:Un (El X.stack) ch H H' s.heap h')(hok:HOk X.prog X.w H' h')(hg:mC g')
  (hch:∀b∈ch,(b∈X.ex\/X.s₀.heap.objs.size<=b)/\b≠X.env.locals/\(∀x c,X.env.cells.lookup x=some c->c≠b)/\∀p∈X.pn++pins,p.1≠b):
  Inv X pins Z H' {s with heap:=h',gens:=g',drawn:=d',toks:=t'}:=by
 obtain⟨m,⟨o,es,ep,ho,r⟩,_⟩:=id I.loc;obtain⟨sl,hL⟩:=u.any ho I.free λz=>(hch _ z).2.1 rfl;exact I.step (ch:=ch) hch (λb o hL hb hc e n=>u.keep b o e n (λz=>(List.mem_cons.mp (I.stkSub b z)).elim hL hb) hc) (λb o _ _ hc e n=>u.any e n hc) (λb o hc e n=>u.free b o e n hc) (λb o hc e=>u.there b o e hc) u.tups u.frzs u.tbls (λm' hm=>by
  obtain⟨o',es',ep',ho',r'⟩:=hm;rw[ho]at ho';cases ho';exact⟨_,es',ep',hL,r'⟩) hok hg
def Inv.turned(I:Inv X pins Z H s)(k:∀b o,b≠it->s.heap.get? b=some o->h'.get? b=some o)(hn:H it=none)(hL:it≠X.env.locals)
  (h1:it∈X.ex\/X.s₀.heap.objs.size<=it)(h2:∀x c,X.env.cells.lookup x=some c->c≠it)(h3:∀p∈X.pn++pins,p.1≠it):Inv X pins Z H {s with heap:=h',toks:=t'}:=by
 have nit:∀b u,H b=some u->b≠it:=λb u e z=>by rw[z,hn]at e;cases e
 refine I.step (g':=s.gens) (d':=s.drawn) (ch:=[it]) (λb hb=>?_) (λb o _ _ hc e _=>k b o (λz=>hc (by simp[z])) e) (λb o _ _ hc e _=>⟨o.slots,k b o (λz=>hc (by simp[z])) e⟩) (λ_ _ _ _ n=>n)
  (λb o hc e=>⟨o,k b o (λz=>hc (by simp[z])) e⟩) (λ_ _ e=>e) (λ_ _ _ e=>e) (λ_ _ e=>e) (λm hm=>?_) (λb u e=>?_) I.bare
 ·have e:b=it:=by simpa using hb
  subst e;exact⟨h1,hL,h2,h3⟩
 ·obtain⟨o,es,ep,ho,r⟩:=hm;exact⟨o,es,ep,k _ o (fM hL) ho,r⟩
 ·refine(I.hok b u e).stay (λc v hc q=>k c v ?_ q) (λ_ q=>q) λ_ _ q=>q;rcases hc with z|z
  ·rw[z];exact nit b u e
  ·exact nit c _ z
def Inv.tok(I:Inv X pins Z H s)(t:Nat):Inv X pins Z H {s with toks:=t}:=I.un (h':=s.heap) (t':=t) Un.refl I.hok
theorem Inv.kept(I:Inv X pins Z H s)(k:∀b u,s.heap.get? b=some u->h'.get? b=some u):Inv X pins Z H {s with heap:=h',toks:=t'}:=I.un (Un.kept k) (I.hok.kept k)
theorem Inv.laid(I:Inv X pins Z H s)(k:∀b u,s.heap.get? b=some u->h'.get? b=some u)(hp:s.heap.objs.size<=a)(new:ObjOk X.prog X.w (upd H a o) h' a o):
  Inv X pins Z (upd H a o) {s with heap:=h',toks:=t'}:=I.un (Un.laid k hp (I.hok.fresh hp)) (I.hok.laid k hp new)
theorem Inv.write(I:Inv X pins Z H s)(mu:PZ (H x))(he:e=x\/H e=some (.own x))(k:∀b u,b≠e->s.heap.get? b=some u->h'.get? b=some u)(heo:∃u,h'.get? e=some u)
  (new:ObjOk X.prog X.w (upd H x o) h' x o):Inv X pins Z (upd H x o) {s with heap:=h',toks:=t'}:=I.un (Un.write mu he k heo) (I.hok.write mu he k heo new)
def Inv.pins_of(I:Inv X pins Z H s)(h:∀p∈pins',s.heap.get? p.1=some p.2/\H p.1=none/\p.1≠X.env.locals/\p.1∉X.fs/\∀v,p.2.data≠.cell v):Inv X pins' Z H s:=
 ⟨I.ok,I.os,I.bare,I.base,I.loc,I.cell,I.free,I.freeC,λp hp=>(List.mem_append.mp hp).elim (λz=>I.pin p (bW _ z)) (h p),I.hok,I.len⟩
def K9{N:List Str}(hN:N.Nodup){i j:Nat}{x:Str}(a:N[i]?=some x)(b:N[j]?=some x):i=j:=by
 obtain⟨h1,e1⟩:=List.getElem?_eq_some_iff.mp a;obtain⟨h2,e2⟩:=List.getElem?_eq_some_iff.mp b;exact(List.getElem_inj hN).mp (e1.trans e2.symm)
def Gc(I:Inv X pins Z H s)(hN:X.N.Nodup)(hi:X.N[i]?=some x)(hx:Us X.env.scope x)(r:RelV v u)
  (h:∀s',Inv X pins (Z.set i (some v)) H s'->(∃a,cK a s.heap s'.heap/\(a=X.env.locals\/X.env.cells.lookup x=some a))->Q () s')(hf:X.fn x=true\/X.env.scope.names.lookup x=some .local:=by first|exact .inl rfl|exact .inr rfl|assumption):bA M A (storeName X.env x u) Q E s:=by
 obtain⟨m,hn,hl⟩:=id I.loc;have hcls:(X.env.scope.kind==.class||(X.env.scope.kind==.module && X.env.locals !=X.env.globals))=false:=by rw[I.ok.kind];rfl
 have hiσ:i<Z.length:=by rw[I.len];exact(List.getElem?_eq_some_iff.mp hi).1
 have cne:=I.cne;have tracked:∀{a:Addr}{h':Heap},(∃o,s.heap.get? a=some o/\H a=none)->cK a s.heap h'->HOk X.prog X.w H h':=λ{a h'} ha hs b ob e=>by
  obtain⟨_,_,hfree⟩:=ha;refine(I.hok b ob e).stay (λc w' hc q=>(hs.2 c ?_).trans q) (λ_ q=>q) λ_ _ q=>q
  rintro rfl
  rcases hc with rfl|hc
  ·rw[hfree]at e;cases e
  ·rw[hfree]at hc;cases hc
 rcases hx with hk|hk
 ·refine wpAny_storeName_local hk hn (λh' hn' hs=>?_) hcls;obtain⟨oL,_,_,hoL,_⟩:=id hn;refine h _ ⟨I.ok,I.os,I.bare,⟨λb o e n hb hx=>?_,λb o e n hb hx=>?_,I.base.free,λb o e hx=>?_,I.base.tups,I.base.frzs,I.base.tbls⟩,⟨_,hn',λj y v' e1 e2 e3=>?_⟩,λy c e=>?_,I.free,I.freeC,λp hp=>?_,tracked ⟨oL,hoL,I.free⟩ hs,by simpa using I.len⟩ ⟨_,hs,.inl rfl⟩
  ·exact(hs.2 b (bJ (bI (aT e) I.ok.above))).trans (I.base.keep b o e n hb hx)
  ·obtain⟨sl,e1⟩:=I.base.slot b o e n hb hx;exact⟨sl,(hs.2 b (bJ (bI (aT e) I.ok.above))).trans e1⟩
  ·obtain⟨o',e1⟩:=I.base.there b o e hx;exact⟨o',(hs.2 b (bJ (bI (aT e) I.ok.above))).trans e1⟩
  ·by_cases hj:j=i
   ·subst hj;rw[hi]at e1;cases e1;rw[bK hiσ]at e2;cases e2;exact⟨u,r,.inl ⟨hk,by simp⟩⟩
   ·rw[bN (fM hj)]at e2;obtain⟨u',r',q⟩:=hl j y v' e1 e2 e3;refine⟨u',r',?_⟩;rcases q with ⟨k,e⟩|⟨k,c,e,z⟩
    ·refine .inl ⟨k,?_⟩;have:y≠x:=λe=>hj (K9 hN e1 (e▸hi));simp[this,e]
    ·exact .inr ⟨k,c,e,z.sameBut hs (cne y c e)⟩
  ·obtain⟨w',z⟩:=I.cell y c e;exact⟨w',z.sameBut hs (cne y c e)⟩
  ·obtain⟨e,n,ne,nf,d⟩:=I.pin p hp;exact⟨(hs.2 p.1 ne).trans e,n,ne,nf,d⟩
 ·have hfn:X.fn x=true:=by
   rcases hf with z|z
   ·exact z
   ·rw[z]at hk;cases hk
  obtain⟨c,hc⟩:=I.ok.has x (.inl hk);obtain⟨w',z⟩:=I.cell x c hc;refine wpAny_storeName_cell I.ok.kind hk hc z (λh' hc' hs=>?_);obtain⟨oc,hoc,hocd⟩:=id z;have hfr:H c=none:=(I.freeC x c hc).elim (λz=>z) λz=>by rw[hfn]at z;exact absurd z.1 (by decide)
  refine h {s with heap:=h'} ⟨I.ok,I.os,I.bare,⟨λb o e n hb hx=>?_,λb o e n hb hx=>?_,I.base.free,λb o e hx=>?_,I.base.tups,I.base.frzs,I.base.tbls⟩,⟨m,hn.sameBut hs (fM (cne x c hc)),λj y v' e1 e2 e3=>?_⟩,λy c' e=>?_,I.free,I.freeC,λp hp=>?_,tracked ⟨oc,hoc,hfr⟩ hs,by simpa using I.len⟩ ⟨c,hs,.inr hc⟩
  ·exact(hs.2 b (bJ (bI (aT e) (I.ok.cab x c hfn hc)))).trans (I.base.keep b o e n hb hx)
  ·obtain⟨sl,e1⟩:=I.base.slot b o e n hb hx;exact⟨sl,(hs.2 b (bJ (bI (aT e) (I.ok.cab x c hfn hc)))).trans e1⟩
  ·obtain⟨o',e1⟩:=I.base.there b o e hx;exact⟨o',(hs.2 b (bJ (bI (aT e) (I.ok.cab x c hfn hc)))).trans e1⟩
  ·by_cases hj:j=i
   ·subst hj;rw[hi]at e1;cases e1;rw[bK hiσ]at e2;cases e2;exact⟨u,r,.inr ⟨.inl hk,c,hc,hc'⟩⟩
   ·rw[bN (fM hj)]at e2;obtain⟨u',r',q⟩:=hl j y v' e1 e2 e3;refine⟨u',r',?_⟩;rcases q with q|⟨k,c',e,z'⟩
    ·exact .inl q
    ·refine .inr ⟨k,c',e,z'.sameBut hs ?_⟩
     rintro rfl
     exact hj (K9 hN e1 (I.ok.inj _ _ _ e hc▸hi))
  ·by_cases hcc:c'=c
   ·subst hcc;exact⟨_,hc'⟩
   ·obtain⟨w2,z2⟩:=I.cell y c' e;exact⟨w2,z2.sameBut hs hcc⟩
  ·obtain⟨e,n,ne,nf,d⟩:=I.pin p hp;refine⟨(hs.2 p.1 ?_).trans e,n,ne,nf,d⟩;intro q;rw[q,hoc]at e;have q':oc=p.2:=bS e;exact d w' (by rw[<-q'];exact hocd)
def Mb(I:Inv X pins Z H s)(hN:X.N.Nodup)(hi:X.N[i]?=some x)(hx:Us X.env.scope x)(r:RelV v u)
  (h:∀s',Inv X pins (Z.set i (some v)) H s'->Q () s')(hf:X.fn x=true\/X.env.scope.names.lookup x=some .local:=by first|exact .inl rfl|exact .inr rfl|assumption):bA M A (storeName X.env x u) Q E s:=
 Gc I hN hi hx r (λs' I' _=>h s' I') hf
def Inv.call'{s':aI}(I:Inv X pins Z H s)(ho:s'.os=s.os)(u:Un (El X.stack) ch H H' s.heap s'.heap)(hok:HOk X.prog X.w H' s'.heap)(hg:mC s'.gens)
  (hch:∀b∈ch,(b∈X.ex\/X.s₀.heap.objs.size<=b)/\b≠X.env.locals/\(∀x c,X.env.cells.lookup x=some c->c≠b)/\∀p∈X.pn++pins,p.1≠b):Inv X pins Z H' s':=by
 obtain⟨h',g',d',t',o'⟩:=s';have e:o'=s.os:=ho;subst e;exact I.call (g':=g') (t':=t') (d':=d') u hok hg hch
end
abbrev XK:=aC->Option Addr->Hp->Prop
abbrev St:=List (Option V)
abbrev VK:=V->Hp->Prop
abbrev TE:=St->Hp->VK->Prop
abbrev TT:=St->Hp->(Bool->Hp->Prop)->Prop
abbrev TA:=St->Hp->(List V->Hp->Prop)->Prop
structure Ends where
 nx:St->Hp->Prop
 rt:VK
 bk:St->Hp->Prop:=λ_ _=>False
 ct:St->Hp->Prop:=λ_ _=>False
abbrev TS:=Ends->St->Hp->Prop
def EP(X:Cx)(pins:List (Addr×Obj))(Z:St)(Q:VK)(u:aC)(s':aI):Prop:=∃v H',Inv X pins Z H' s'/\RelV v u/\Q v H'
def TP(X:Cx)(pins:List (Addr×Obj))(Z:St)(Q:Bool->Hp->Prop)(b:Bool)(s':aI):Prop:=∃H',Inv X pins Z H' s'/\Q b H'
def AP(X:Cx)(pins:List (Addr×Obj))(Z:St)(Q:List V->Hp->Prop)(us:List aC)(s':aI):Prop:=∃vs H',Inv X pins Z H' s'/\Vals vs us/\Q vs H'
def SP(X:Cx)(pins:List (Addr×Obj))(D:Ends)(f:Flow)(s':aI):Prop:=
 match f with
 |.next=>∃σ' H',Inv X pins σ' H' s'/\D.nx σ' H'
 |.brk=>∃σ' H',Inv X pins σ' H' s'/\D.bk σ' H'
 |.cont=>∃σ' H',Inv X pins σ' H' s'/\D.ct σ' H'
 |.ret u=>∃v σ' H',Inv X pins σ' H' s'/\RelV v u/\D.rt v H'
def PE(X:Cx)(e:Expr)(t:TE):Prop:=
 ∀(pins:List (Addr×Obj))(s:aI)(Z:St)(H:Hp)(Q:VK),Inv X pins Z H s->t Z H Q->bA (bH X.prog X.w) X.A (eval e X.env) (EP X pins Z Q) X.xe s
def PT(X:Cx)(e:Expr)(t:TT):Prop:=
 ∀(pins:List (Addr×Obj))(s:aI)(Z:St)(H:Hp)(Q:Bool->Hp->Prop),Inv X pins Z H s->t Z H Q->bA (bH X.prog X.w) X.A (isTrue e X.env (eval e X.env)) (TP X pins Z Q) X.xe s
def PW(X:Cx)(e:Expr)(t:TT):Prop:=
 ∀(whole:Sem aC)(pins:List (Addr×Obj))(s:aI)(Z:St)(H:Hp)(Q:Bool->Hp->Prop),Inv X pins Z H s->t Z H Q->bA (bH X.prog X.w) X.A (isTrue e X.env whole) (TP X pins Z Q) X.xe s
def PW.pt(h:PW X e t):PT X e t:=h _
def PA(X:Cx)(es:List Expr)(t:TA):Prop:=
 ∀(pos:Pos)(pins:List (Addr×Obj))(s:aI)(Z:St)(H:Hp)(Q:List V->Hp->Prop),Inv X pins Z H s->t Z H Q->bA (bH X.prog X.w) X.A (spliced (eZ pos (bE es X.env))) (AP X pins Z Q) X.xe s
def PS(X:Cx)(st:Stmt)(t:TS):Prop:=
 ∀(pins:List (Addr×Obj))(s:aI)(Z:St)(H:Hp)(D:Ends),Inv X pins Z H s->t D Z H->bA (bH X.prog X.w) X.A (exec st X.env) (SP X pins D) X.xe s
def PSs(X:Cx)(st:List Stmt)(t:TS):Prop:=
 ∀(pins:List (Addr×Obj))(s:aI)(Z:St)(H:Hp)(D:Ends),Inv X pins Z H s->t D Z H->bA (bH X.prog X.w) X.A (execs st X.env) (SP X pins D) X.xe s
def i7(h:bA M A t Q E s)(hQ:∀a s,Q a s->Q' a s):bA M A t Q' E s:=bU h hQ λ_ _ x=>x
end L2
namespace L2
open PySem PySem.Spec PyProof.Rows
section
variable{X:Cx}
def Iq(i:Nat):TE:=λZ H Q=>∃v,Z[i]?=some (some v)/\Q v H
def tC(v:V):TE:=λ_ H Q=>Q v H
def LO(hN:X.N[i]?=some x)(hv:PV X.env.scope x)(hd:(x==("__debug__":Str))=false:=by decide)(hcd:(x==("__classdict__":Str))=false:=by decide):PE X (.Name x pos) (Iq i):=by
 intro pins s Z H Q I h;obtain⟨v,e,h⟩:=h;obtain⟨m,hn,hl⟩:=I.loc;obtain⟨u,r,l⟩:=hl i x v hN e hv;have fin:EP X pins Z Q u s:=⟨v,H,I,r,h⟩;rcases l with ⟨hk,hm⟩|⟨hk,c,hc,hcell⟩
 ·exact wpAny_Name (wpAny_loadName_local I.ok.kind hk hn hm fin) hd
 ·rcases hk with hk|hk
  ·exact wpAny_Name (wpAny_loadName_cell I.ok.kind hk hc hcell fin) hd
  ·exact wpAny_Name (wpAny_loadName_free I.ok.kind hk hc hcell fin hcd) hd
def Xv{i j pos}:PE X (.Constant (.int i) j pos) (tC (.int i)):=λ_ _ _ H _ I h=>wpAny_Constant_int ⟨.int i,H,I.tok _,⟨_,rfl⟩,h⟩
def QE{b j pos}:PE X (.Constant (.bool b) j pos) (tC (.bl b)):=λ_ _ _ H _ I h=>Constant_bool ⟨.bl b,H,I,rfl,h⟩
def LU{j pos}:PE X (.Constant .none j pos) (tC .non):=λ_ _ _ H _ I h=>Constant_none ⟨.non,H,I,rfl,h⟩
def LQ{x j pos}:PE X (.Constant (.str x) j pos) (tC (.str x)):=λ_ _ _ H _ I h=>Calls.Constant_str ⟨.str x,H,I.tok _,⟨_,rfl⟩,h⟩
def Gl(X:Cx)(x:Str):Prop:=X.env.kindOf x=some .globalImplicit
def A8(I:Inv X pins Z H s)(hg:Gl X x)(hm:X.mg x=some u)(h:Q u s)
  (hd:(x==("__debug__":Str))=false:=by decide):bA (bH X.prog X.w) X.A (eval (.Name x pos) X.env) Q E s:=
 Calls.Name_function_global I.ok.kind hg (Calls.loadGlobal_global (by rw[I.ok.glob];exact I.mod.glob.keeps I.bk) hm h) hd
def vw(I:Inv X pins Z H s)(hg:Gl X x)(hm:X.mg x=none)(hv:gO x=some u)(h:Q u s)
  (hn:x≠"__name__":=by decide)(hd:(x==("__debug__":Str))=false:=by decide):bA (bH X.prog X.w) X.A (eval (.Name x pos) X.env) Q E s:=by
 obtain⟨mb,h1,h2⟩:=I.mod.blt;exact Calls.Name_function_global I.ok.kind hg (Calls.loadGlobal_builtin (by rw[I.ok.glob];exact I.mod.glob.keeps I.bk) hm (by rw[I.ok.blt];exact h1.keeps I.bk) ((h2 x hn).trans hv) h) hd
def Qt(hg:Gl X x)(hm:X.mg x=some u)(r:RelV v u)(hd:(x==("__debug__":Str))=false:=by decide):PE X (.Name x pos) (tC v):=
 λ_ _ _ H _ I h=>A8 I hg hm ⟨v,H,I,r,h⟩ hd
def DM(hg:Gl X x)(hm:X.mg x=none)(hv:gO x=some u)(r:RelV v u)(hn:x≠"__name__":=by decide)(hd:(x==("__debug__":Str))=false:=by decide):PE X (.Name x pos) (tC v):=
 λ_ _ _ H _ I h=>vw I hg hm hv ⟨v,H,I,r,h⟩ hn hd
variable{a b:Expr}{ta tb:TE}{pos:Pos}
variable{tA tB':TT}{rest:List Expr}
def XQ(t u:TT):TT:=λZ H Q=>t Z H λc H1=>if c=true then u Z H1 Q else Q false H1
def ZX(t u:TT):TT:=λZ H Q=>t Z H λc H1=>if c=true then Q true H1 else u Z H1 Q
def XH(t:TT):TT:=λZ H Q=>t Z H λc H1=>Q (!c) H1
def EI(ha:PT X a tA):PW X (.BoolOp .And [a] pos) tA:=by
 intro wh pins s Z H Q I h;refine isTrue_and (i7 (ha pins s Z H Q I h) λc s1 e=>?_);cases c with
 |true=>exact isTrue_and_nil e
 |false=>exact e
def MH(ha:PT X a tA):PW X (.BoolOp .Or [a] pos) tA:=by
 intro wh pins s Z H Q I h;refine isTrue_or (i7 (ha pins s Z H Q I h) λc s1 e=>?_);cases c with
 |false=>exact isTrue_or_nil e
 |true=>exact e
def MJ(ha:PT X a tA)(hb:PW X (.BoolOp .And (b::rest) pos) tB'):PW X (.BoolOp .And (a::b::rest) pos) (XQ tA tB'):=by
 intro wh pins s Z H Q I h;refine isTrue_and (i7 (ha pins s Z H _ I h) λc s1 ⟨H1,I1,q1⟩=>?_);cases c with
 |true=>exact hb wh pins s1 Z H1 Q I1 q1
 |false=>exact⟨H1,I1,q1⟩
def RT(ha:PT X a tA)(hb:PW X (.BoolOp .Or (b::rest) pos) tB'):PW X (.BoolOp .Or (a::b::rest) pos) (ZX tA tB'):=by
 intro wh pins s Z H Q I h;refine isTrue_or (i7 (ha pins s Z H _ I h) λc s1 ⟨H1,I1,q1⟩=>?_);cases c with
 |true=>exact⟨H1,I1,q1⟩
 |false=>exact hb wh pins s1 Z H1 Q I1 q1
def LC(ha:PT X a tA):PT X (.UnaryOp .Not a pos) (XH tA):=by
 intro pins s Z H Q I h;exact isTrue_not (ha pins s Z H (λc H1=>Q (!c) H1) I h)
def SU(ta tb:TE):TE:=λZ H Q=>ta Z H λx H1=>∃c,x=.bl c/\if c=true then tb Z H1 Q else Q (.bl false) H1
def XG(ta tb:TE):TE:=λZ H Q=>ta Z H λx H1=>∃c,x=.bl c/\if c=true then Q (.bl true) H1 else tb Z H1 Q
def SR(ta:TE):TE:=λZ H Q=>ta Z H λx H1=>∃c,x=.bl c/\Q (.bl (!c)) H1
def LR{op}(h:PE X a t):PE X (.BoolOp op [a] pos) t:=λpins s Z H Q I hw=>BoolOp_one (h pins s Z H Q I hw)
def LX(ha:PE X a ta)(hb:PE X (.BoolOp .And (b::rest) pos) tb):PE X (.BoolOp .And (a::b::rest) pos) (SU ta tb):=by
 intro pins s Z H Q I h;refine BoolOp_and (i7 (ha pins s Z H _ I h) λv s1 ⟨x,H1,I1,r1,q1⟩=>?_);obtain⟨c,rfl,q1⟩:=q1;cases r1;refine dX ?_;cases c with
 |true=>exact hb pins s1 Z H1 Q I1 q1
 |false=>exact⟨.bl false,H1,I1,rfl,q1⟩
def QC(ha:PE X a ta)(hb:PE X (.BoolOp .Or (b::rest) pos) tb):PE X (.BoolOp .Or (a::b::rest) pos) (XG ta tb):=by
 intro pins s Z H Q I h;refine BoolOp_or (i7 (ha pins s Z H _ I h) λv s1 ⟨x,H1,I1,r1,q1⟩=>?_);obtain⟨c,rfl,q1⟩:=q1;cases r1;refine dX ?_;cases c with
 |false=>exact hb pins s1 Z H1 Q I1 q1
 |true=>exact⟨.bl true,H1,I1,rfl,q1⟩
def LS(ha:PE X a ta):PE X (.UnaryOp .Not a pos) (SR ta):=by
 intro pins s Z H Q I h;refine UnaryOp_ (i7 (ha pins s Z H _ I h) λv s1 ⟨x,H1,I1,r1,q1⟩=>?_);obtain⟨c,rfl,q1⟩:=q1;cases r1;exact not_of (dX ⟨.bl (!c),H1,I1,rfl,q1⟩)
def ZZ(t:TT)(ta tb:TE):TE:=λZ H Q=>t Z H λc H1=>if c=true then ta Z H1 Q else tb Z H1 Q
def Lh(hc:PT X c tA)(ha:PE X a ta)(hb:PE X b tb):PE X (.IfExp c a b pos) (ZZ tA ta tb):=by
 intro pins s Z H Q I h;refine wpAny_IfExp (i7 (hc pins s Z H _ I h) λd s1 ⟨H1,I1,q1⟩=>?_);cases d with
 |true=>exact ha pins s1 Z H1 Q I1 q1
 |false=>exact hb pins s1 Z H1 Q I1 q1
end
end L2
namespace L2
open PySem PySem.Spec PyProof.Rows
def SqL(K:aU)(H:Hp)(a:Addr)(xs:List V):Prop:=
 Rd H a (.lst xs)\/
  ∃(o:Obj) (its:Array aC) (n:Nat),K.lookup a=some o/\o.cls=.type "list"/\o.dict=none/\o.data=.seq its n/\its.size<=aQ/\Vals xs its.toList
def SqT(K:aU)(H:Hp)(a:Addr)(xs:List V):Prop:=
 Rd H a (.tup xs)\/
  ∃(o:Obj) (its:Array aC) (n:Nat),K.lookup a=some o/\o.cls=.type "tuple"/\o.data=.seq its n/\its.size<=aQ/\Vals xs its.toList
noncomputable def WT:aC->Option V
 |.none=>some .non
 |.bool b=>some (.bl b)
 |.int i _=>some (.int i)
 |.str x _=>some (.str x)
 |.bytes b _=>some (.byt b)
 |.float b _=>some (.flt b)
 |.ref a=>some (.ref a)
 |.type n=>some (.ty n)
 |_=>none
def RelV.abs(r:RelV x u):WT u=some x:=by
 cases x with
 |non=>cases r;rfl
 |bl _=>cases r;rfl
 |int _=>obtain⟨t,rfl⟩:=r;rfl
 |str _=>obtain⟨t,rfl⟩:=r;rfl
 |byt _=>obtain⟨t,rfl⟩:=r;rfl
 |flt _=>obtain⟨t,rfl⟩:=r;rfl
 |ref _=>cases r;rfl
 |ty _=>cases r;rfl
def RelV.inj(r:RelV x u)(q:RelV y u):x=y:=bS (r.abs.symm.trans q.abs)
theorem Vals.inj:∀{xs ys:List V}{us:List aC},Vals xs us->Vals ys us->xs=ys
 |_,_,_,.nil,.nil=>rfl
 |_,_,_,.cons r t,.cons r' t'=>by rw[r.inj r',Vals.inj t t']
section
variable{X:Cx}{pins:List (Addr×Obj)}{Z:St}{H:Hp}{s:aI}{a:Addr}{xs ys:List V}
def SqL.of{K:aU}(h:H a=some (.lst xs)):SqL K H a xs:=.inl (.inl h)
def SqT.of{K:aU}(h:H a=some (.tup xs)):SqT K H a xs:=.inl (.inl h)
def Inv.list(I:Inv X pins Z H s)(h:SqL X.K H a xs):∃its:List aC,Vals xs its/\PlainL s.heap a its.toArray/\xs.length<=aQ:=by
 rcases h with h|⟨o,its,n,hk,hc,hd,hs,hz,r⟩
 ·obtain⟨z,its,n,r,e⟩:=h.ok I.hok;exact⟨its,r,⟨_,n,e,rfl,rfl,rfl⟩,z⟩
 ·refine⟨its.toList,r,⟨o,n,I.kIn a o hk,hc,hd,by simpa using hs⟩,?_⟩;have e:=r.length;simp only[aL]at e
  lia
def Inv.tuple(I:Inv X pins Z H s)(h:SqT X.K H a xs):∃its:List aC,Vals xs its/\IsTup s.heap a its.toArray/\xs.length<=aQ:=by
 rcases h with h|⟨o,its,n,hk,hc,hs,hz,r⟩
 ·obtain⟨z,its,r,p⟩:=h.ok I.hok;exact⟨its,r,p,z⟩
 ·refine⟨its.toList,r,⟨o,I.kIn a o hk,hc,n,by simpa using hs⟩,?_⟩;have e:=r.length;simp only[aL]at e
  lia
def Inv.list_inj(I:Inv X pins Z H s)(h:SqL X.K H a xs)(h':SqL X.K H a ys):xs=ys:=by
 obtain⟨its,r,⟨o,n,e,_,_,d⟩,_⟩:=I.list h;obtain⟨its',r',⟨o',n',e',_,_,d'⟩,_⟩:=I.list h';rw[e]at e';cases e';rw[d]at d';injection d' with d1 _
 have:its=its':=by simpa using congrArg Array.toList d1
 subst this;exact r.inj r'
def Inv.tuple_inj(I:Inv X pins Z H s)(h:SqT X.K H a xs)(h':SqT X.K H a ys):xs=ys:=by
 obtain⟨its,r,⟨o,e,_,n,d⟩,_⟩:=I.tuple h;obtain⟨its',r',⟨o',e',_,n',d'⟩,_⟩:=I.tuple h';rw[e]at e';cases e';rw[d]at d';injection d' with d1 _
 have:its=its':=by simpa using congrArg Array.toList d1
 subst this;exact r.inj r'
end
section
variable{X:Cx}{st:Stmt}{rest:List Stmt}{t u:TS}{e:Expr}{te:TE}{pos:Pos}
def HK:TS:=λD Z H=>D.nx Z H
def SM(t u:TS):TS:=λD Z H=>t {D with nx:=u D} Z H
def EY:PSs X [] HK:=λ_ _ Z H _ I h=>lT ⟨Z,H,I,h⟩
def Ya(h1:PS X st t)(h2:PSs X rest u):PSs X (st::rest) (SM t u):=by
 intro pins s Z H D I h;refine wpAny_execs_cons (i7 (h1 pins s Z H {D with nx:=u D} I h) λf s1 q=>?_);cases f with
 |next=>
  obtain⟨σ',H',I',q⟩:=q;exact h2 pins s1 σ' H' D I' q
 |ret v=>exact q
 |brk=>exact q
 |cont=>exact q
def EX(h1:PS X st t):PSs X [st] t:=by
 intro pins s Z H D I h;refine wpAny_execs_cons (i7 (h1 pins s Z H D I h) λf s1 q=>?_);cases f with
 |next=>exact lT q
 |ret v=>exact q
 |brk=>exact q
 |cont=>exact q
def Inv.quiet(I:Inv X pins Z H s):interactive X.env=false:=by simp[interactive,I.ok.kind]
def LH{x j pos pos'}:PS X (.Expr (.Constant (.str x) j pos) pos') HK:=λ_ s Z H _ I h=>wpAny_Expr (Calls.Constant_str (show SP X _ _ .next {s with toks:=s.toks+1}from⟨Z,H,I.tok _,h⟩)) I.quiet
def SS(te:TE):TS:=λD Z H=>te Z H λ_ H1=>D.nx Z H1
def Ib(he:PE X e te)(hs:jX e none pos.line X.env=pure false:=by rfl):PS X (.Expr e pos) (SS te):=by
 intro pins s Z H D I h;exact wpAny_Expr_any (i7 (he pins s Z H _ I h) λv s1 ⟨x,H1,I1,r1,q1⟩=>⟨Z,H1,I1,q1⟩) I.quiet hs
def XF(te:TE):TS:=λD Z H=>te Z H D.rt
def LF(he:PE X e te):PS X (.Return (some e) pos) (XF te):=by
 intro pins s Z H D I h;exact wpAny_Return_some (i7 (he pins s Z H _ I h) λv s1 ⟨x,H1,I1,r1,q1⟩=>⟨x,Z,H1,I1,r1,q1⟩)
def SN:TS:=λD _ H=>D.rt .non H
def EZ:PS X (.Return none pos) SN:=λ_ _ Z H _ I h=>wpAny_Return_none ⟨.non,Z,H,I,rfl,h⟩
def XJ(c:TT)(t u:TS):TS:=λD Z H=>c Z H λb H1=>if b=true then t D Z H1 else u D Z H1
def QB(hc:PT X c tc)(ha:PSs X a t)(hb:PSs X b u):PS X (.If c a b pos) (XJ tc t u):=by
 intro pins s Z H D I h;refine wpAny_If (i7 (hc pins s Z H _ I h) λd s1 ⟨H1,I1,q1⟩=>?_);cases d with
 |true=>exact ha pins s1 Z H1 D I1 q1
 |false=>exact hb pins s1 Z H1 D I1 q1
end
abbrev TG:=V->St->Hp->(St->Hp->Prop)->Prop
abbrev OP:=List V->St->Hp->(St->Hp->Prop)->Prop
def PG(X:Cx)(target:Expr)(t:TG):Prop:=
 ∀(pins:List (Addr×Obj))(s:aI)(Z:St)(H:Hp)(v:V)(u:aC)(Q:St->Hp->Prop),Inv X pins Z H s->RelV v u->t v Z H Q->
  bA (bH X.prog X.w) X.A (assign target X.env u) (λ_ s'=>∃σ' H',Inv X pins σ' H' s'/\Q σ' H') X.xe s
def PY(X:Cx)(ts:List Expr)(t:OP):Prop:=
 ∀(pins:List (Addr×Obj))(s:aI)(Z:St)(H:Hp)(vs:List V)(us:List aC)(Q:St->Hp->Prop),Inv X pins Z H s->Vals vs us->t vs Z H Q->
  bA (bH X.prog X.w) X.A (assignInOrder ((iV ts X.env).map (·.2)) us) (λ_ s'=>∃σ' H',Inv X pins σ' H' s'/\Q σ' H') X.xe s
section
variable{X:Cx}{pos:Pos}
def vb(i:Nat):TG:=λv Z H Q=>Q (Z.set i (some v)) H
def Qu(hN:X.N.Nodup)(hi:X.N[i]?=some x)(hx:Us X.env.scope x)(hf:X.fn x=true\/X.env.scope.names.lookup x=some .local:=by first|exact .inl rfl|exact .inr rfl|assumption):PG X (.Name x pos) (vb i):=by
 intro pins s Z H v u Q I r h;exact wpAny_assign_Name (Mb I hN hi hx r (λs' I'=>⟨_,H,I',h⟩) hf)
noncomputable def ai:OP:=λvs Z H Q=>vs=[]/\Q Z H
noncomputable def ae(t:TG)(u:OP):OP:=λvs Z H Q=>∃v r,vs=v::r/\t v Z H λσ' H'=>u r σ' H' Q
def DJ:PY X [] ai:=by
 intro pins s Z H vs us Q I r h;obtain⟨e,h⟩:=h;subst e;cases r;exact assignInOrder_nil ⟨Z,H,I,h⟩
def Xx(h1:PG X e t)(h2:PY X es u)
  (hs:(iV (e::es) X.env).map (·.2)=assign e X.env::(iV es X.env).map (·.2):=by rfl):PY X (e::es) (ae t u):=by
 intro pins s Z H vs us Q I r h;obtain⟨v,vr,e1,h⟩:=h;subst e1;cases r with
 |cons r rr=>
  rw[hs];refine assignInOrder_cons (i7 (h1 pins s Z H _ _ _ I r h) λ_ s1 ⟨σ1,H1,I1,q1⟩=>?_);exact h2 pins s1 σ1 H1 _ _ Q I1 rr q1
noncomputable def ia(K:aU)(n:Nat)(t:OP):TG:=λv Z H Q=>∃a xs,v=.ref a/\SqT K H a xs/\xs.length=n/\t xs Z H Q
def LN(hc:X.calm=true)(h:PY X es t)
  (hn:(iV es X.env).length=n:=by rfl)(hst:(iV es X.env).findIdx? (·.1)=none:=by rfl):PG X (.Tuple es k pos) (ia X.K n t):=by
 intro pins s Z H v u Q I r hw;obtain⟨a,xs,e1,hq,hl,hw⟩:=hw;subst e1;cases r;obtain⟨its,rv,ht,hz⟩:=I.tuple hq;refine assign_Tuple_tuple (I.ok.hd hc) ht (by simp[hn,<-hl,rv.length]) hst λh' hx=>?_;have I1:Inv X pins Z H {s with heap:=h'}:=I.kept (t':=s.toks) λb o e=>hx b o (bJ (aT e)) e;exact h pins _ Z H xs _ Q I1 (by simpa using rv) hw
def Ua(te:TE)(g:TG):TS:=λD Z H=>te Z H λx H1=>g x Z H1 D.nx
def LD(hN:X.N.Nodup)(hi:X.N[i]?=some x)(hx:Us X.env.scope x)(he:PE X e te)(hs:jX e (some (.Name x pos')) pos.line X.env=pure false:=by rfl)(hf:X.fn x=true\/X.env.scope.names.lookup x=some .local:=by first|exact .inl rfl|exact .inr rfl|assumption):
  PS X (.Assign [.Name x pos'] e pos) (Ua te (vb i)):=by
 intro pins s Z H D I h;refine wpAny_Assign_Name (i7 (he pins s Z H _ I h) λv s1 ⟨y,H1,I1,r1,q1⟩=>?_) hs;exact Mb I1 hN hi hx r1 (λs2 I2=>⟨_,H1,I2,q1⟩) hf
end
section
variable{X:Cx}{pos:Pos}
def NG(c:TT)(tb:TS):TS:=λD Z H=>∃W:Nat->St->Hp->Prop,(∃m,W m Z H)/\∀m Z H,W m Z H->
 c Z H λb H1=>if b=true then∃N:St->Hp->Prop,(∀σ' H',N σ' H'->∃m',m'<m/\W m' σ' H')/\tb {D with nx:=N,ct:=N,bk:=D.nx} Z H1 else D.nx Z H1
def X9(hp:pA (bH X.prog X.w) X.A X.env X.xe)(hc:PT X c tc)(hb:PSs X body tb):PS X (.While c body [] pos) (NG tc tb):=by
 intro pins s Z H D I h;obtain⟨W,⟨m0,w0⟩,turn⟩:=h;refine wpAny_While (codeAny_whileLoop (λn s'=>∃σ' H',Inv X pins σ' H' s'/\W n σ' H') ?_ m0 ⟨Z,H,I,w0⟩)
 rintro n s1 ⟨σ1,H1,I1,w1⟩
 refine gN hp (i7 (hc pins s1 σ1 H1 _ I1 (turn n σ1 H1 w1)) λb s2 ⟨H2,I2,q2⟩=>?_);cases b with
 |true=>
  obtain⟨N,hN,q2⟩:=q2;rw[aG rfl];refine gN hp (i7 (hb pins s2 σ1 H2 _ I2 q2) λf s3 q3=>?_);cases f with
  |next=>
   obtain⟨σ3,H3,I3,n3⟩:=q3;obtain⟨m',hm,w3⟩:=hN σ3 H3 n3;exact⟨m',hm,σ3,H3,I3,w3⟩
  |cont=>
   obtain⟨σ3,H3,I3,n3⟩:=q3;obtain⟨m',hm,w3⟩:=hN σ3 H3 n3;exact⟨m',hm,σ3,H3,I3,w3⟩
  |brk=>exact q3
  |ret v=>exact q3
 |false=>
  rw[aJ Bool.false_ne_true];exact lT ⟨σ1,H2,I2,q2⟩
end
structure It where
 go:Nat->Hp->Prop
 yld:Nat->Hp->V->Hp->Prop
 stop:Nat->Hp->Prop
def yk(X:Cx)(pins:List (Addr×Obj))(H:Hp)(b:Addr):Prop:=
 H b=none/\b≠X.env.locals/\b∉X.fs/\(b∈X.ex\/X.s₀.heap.objs.size<=b)/\(∀x c,X.env.cells.lookup x=some c->c≠b)/\∀p∈X.pn++pins,p.1≠b
def Inv.fpOk{s:aI}(I:Inv X pins Z H s)(hb:s.heap.objs.size<=b)(hn:H' b=none):yk X pins H' b:=by
 refine⟨hn,jA (bI I.lt hb),I.nofs hb,.inr (cB I.sz hb),λx c e z=>?_,λp hp z=>?_⟩
 ·obtain⟨v,q⟩:=I.cell x c e;exact absurd (bI q.lt (by rw[z];exact hb)) (cI _)
 ·exact absurd (bI (aT (I.pin p hp).1) (by rw[z];exact hb)) (cI _)
structure Turn(P:bQ)(w:bZ)(K:aU)(tg:Expr)(J:It)(fp:List Addr)(it:Addr)(tn:Nat->Heap->Prop):Prop where
 mem:it∈fp
 obj:∀i h,tn i h->∀b∈fp,∃o,h.get? b=some o/\∀v,o.data≠.cell v
 keep:∀i h h',tn i h->(∀b∈fp,∀o,h.get? b=some o->h'.get? b=some o)->tn i h'
 item:∀(X:Cx),X.prog=P->X.w=w->X.K=K->X.calm=true->∀(i:Nat)(pins:List (Addr×Obj))(s:aI)(Z:St)(H:Hp)(E:aC->aI->Prop),Inv X pins Z H s->(∀b∈fp,yk X pins H b)->tn i s.heap->J.go i H->
  bA (bH P w) X.A (jV (.ref it)) (λr s1=>∃u,r=some u/\
   bA (bH P w) X.A (lU tg (.ref it) u) (λ_ s2=>∃x H',Inv X pins Z H' s2/\RelV x u/\J.yld i H x H'/\tn (i+1) s2.heap/\∀b∈fp,H' b=none) E s1) E s
 done:∀(X:Cx),X.prog=P->X.w=w->X.K=K->X.calm=true->∀(i:Nat)(pins:List (Addr×Obj))(s:aI)(Z:St)(H:Hp)(E:aC->aI->Prop),Inv X pins Z H s->(∀b∈fp,yk X pins H b)->tn i s.heap->J.stop i H->
  bA (bH P w) X.A (jV (.ref it)) (λr s1=>r=none/\Inv X pins Z H s1) E s
 self:∀(A:cG)(i:Nat)(s:aI)(Q:aC->aI->Prop)(E:aC->aI->Prop),tn i s.heap->Q (.ref it) s->bA (bH P w) A (pyIter (.ref it)) Q E s
abbrev TI:=St->Hp->(It->Hp->Prop)->Prop
def YV(X:Cx)(pins:List (Addr×Obj))(Z:St)(tg:Expr)(R:It->Hp->Prop)(itv:aC)(s2:aI):Prop:=
 ∃(it:Addr) (fp:List Addr) (tn:Nat->Heap->Prop) (J:It) (H':Hp),itv=.ref it/\Inv X pins Z H' s2/\Turn X.prog X.w X.K tg J fp it tn/\tn 0 s2.heap/\(∀b∈fp,yk X pins H' b)/\R J H'
def PI(X:Cx)(tg iter:Expr)(wi:TI):Prop:=
 ∀(pins:List (Addr×Obj))(s:aI)(Z:St)(H:Hp)(R:It->Hp->Prop),Inv X pins Z H s->wi Z H R->
  bA (bH X.prog X.w) X.A (eval iter X.env) (λv s1=>bA (bH X.prog X.w) X.A (pyIter v) (YV X pins Z tg R) X.xe s1) X.xe s
def Ki{s:aI}{o:Obj}(ho:s.heap.get? it=some o)(hc:o.cls=.type n)(hd:o.data=.fields vs)
  (hn:["enumerate","zip","dict_itemiterator","dict_reverseitemiterator","odict_iterator","itertools.zip_longest","itertools.pairwise"].contains n=false)(hQ:Q () s):bA M A (lU tg (.ref it) u) Q E s:=by
 unfold lU;cases tg<;>first
  |exact aB hQ
  | (cases u <;> first
    |exact aB hQ
    | (refine aA (wpAny_load ho ?_)
       rw[hc,hd];show bA M A (if(["enumerate","zip","dict_itemiterator","dict_reverseitemiterator","odict_iterator","itertools.zip_longest","itertools.pairwise"].contains n && vs[0]?==some (dR _))=true then _ else _) Q E s;rw[aJ (by intro h;rw[hn,Bool.false_and]at h;cases h)];exact aB hQ))
def VB(K:aU)(a:Addr):It:=
 ⟨λi H=>∃xs x,SqL K H a xs/\xs[i]?=some x,λi H x H'=>H'=H/\∀xs,SqL K H a xs->xs[i]?=some x,λi H=>∃xs,SqL K H a xs/\xs.length<=i⟩
def VA(K:aU)(a:Addr):It:=
 ⟨λi H=>∃xs x,SqT K H a xs/\xs[i]?=some x,λi H x H'=>H'=H/\∀xs,SqT K H a xs->xs[i]?=some x,λi H=>∃xs,SqT K H a xs/\xs.length<=i⟩
def TN(lo:Int)(n:Nat):It:=⟨λi _=>i<n,λi H x H'=>H'=H/\x=.int (lo+i),λi _=>n<=i⟩
def Uh{P:bQ}{w:bZ}{K:aU}{tg:Expr}(a it:Addr):Turn P w K tg (VB K a) [it] it (λi h=>h.IsListIter it a i) where
 mem:=by simp
 obj:=λi h st b hb=>by
  have e:b=it:=by simpa using hb
  subst e;obtain⟨o,e,c,d⟩:=st;exact⟨o,e,λv z=>by rw[d]at z;cases z⟩
 keep:=λi h h' st k=>st.at λo e=>k it (by simp) o e
 item:=by
  intro X hP hw hK hc i pins s Z H E I hf st hg;subst hP hw hK;obtain⟨xs,x,hq,hx⟩:=hg;obtain⟨its,rv,p,hz⟩:=I.list hq;obtain⟨u,hu,ru⟩:=rv.get hx;obtain⟨f0,f1,f2,f3,f4,f5⟩:=hf it (by simp);refine wpAny_pyNext_list_item st p.isList (x:=u) (by simpa using hu) λh' st' sb=>?_;have I1:Inv X pins Z H {s with heap:=h'}:=I.turned (t':=s.toks) (λb o hb e=>(sb.2 b hb).trans e) f0 f1 f3 f4 f5;obtain⟨o,e,c,d⟩:=id st';exact⟨u,rfl,Ki (s:={s with heap:=h'}) e c d (by decide) ⟨x,H,I1,ru,⟨rfl,λys hy=>by rw[I.list_inj hy hq];exact hx⟩,st',λb hb=>(hf b hb).1⟩⟩
 done:=by
  intro X hP hw hK hc i pins s Z H E I hf st hg;subst hP hw hK;obtain⟨xs,hq,hx⟩:=hg;obtain⟨its,rv,p,hz⟩:=I.list hq;obtain⟨f0,f1,f2,f3,f4,f5⟩:=hf it (by simp);have hl:=rv.length;exact wpAny_pyNext_list_end (I.ok.hd hc) st p.isList (by simp;lia) λh' eb=>⟨rfl,I.turned (t':=s.toks) (λb o hb e=>eb b o hb e) f0 f1 f3 f4 f5⟩
 self:=λ_ _ _ _ _ st h=>wpAny_pyIter_listiter st h
def O8{P:bQ}{w:bZ}{K:aU}{tg:Expr}(a it:Addr):Turn P w K tg (VA K a) [it] it (λi h=>h.IsTupleIter it a i) where
 mem:=by simp
 obj:=λi h st b hb=>by
  have e:b=it:=by simpa using hb
  subst e;obtain⟨o,e,c,d⟩:=st;exact⟨o,e,λv z=>by rw[d]at z;cases z⟩
 keep:=λi h h' st k=>st.at λo e=>k it (by simp) o e
 item:=by
  intro X hP hw hK hc i pins s Z H E I hf st hg;subst hP hw hK;obtain⟨xs,x,hq,hx⟩:=hg;obtain⟨its,rv,p,hz⟩:=I.tuple hq;obtain⟨u,hu,ru⟩:=rv.get hx;obtain⟨f0,f1,f2,f3,f4,f5⟩:=hf it (by simp);refine wpAny_pyNext_tuple_item st (show s.heap.IsTuple a its.toArray from p) (x:=u) (by simpa using hu) λh' st' sb=>?_;have I1:Inv X pins Z H {s with heap:=h'}:=I.turned (t':=s.toks) (λb o hb e=>(sb.2 b hb).trans e) f0 f1 f3 f4 f5;obtain⟨o,e,c,d⟩:=id st';exact⟨u,rfl,Ki (s:={s with heap:=h'}) e c d (by decide) ⟨x,H,I1,ru,⟨rfl,λys hy=>by rw[I.tuple_inj hy hq];exact hx⟩,st',λb hb=>(hf b hb).1⟩⟩
 done:=by
  intro X hP hw hK hc i pins s Z H E I hf st hg;subst hP hw hK;obtain⟨xs,hq,hx⟩:=hg;obtain⟨its,rv,p,hz⟩:=I.tuple hq;obtain⟨f0,f1,f2,f3,f4,f5⟩:=hf it (by simp);have hl:=rv.length;exact wpAny_pyNext_tuple_end (I.ok.hd hc) st (show s.heap.IsTuple a its.toArray from p) (by simp;lia) λh' eb=>⟨rfl,I.turned (t':=s.toks) (λb o hb e=>eb b o hb e) f0 f1 f3 f4 f5⟩
 self:=λ_ _ _ _ _ st h=>wpAny_pyIter_tupleiter st h
def O7{P:bQ}{w:bZ}{K:aU}{tg:Expr}(it:Addr)(lo:Int)(n:Nat):Turn P w K tg (TN lo n) [it] it (λi h=>IsRangeIter h it (lo+(i:Nat) * 1) ((n:Int) - (i:Nat)) 1) where
 mem:=by simp
 obj:=λi h st b hb=>by
  have e:b=it:=by simpa using hb
  subst e;exact⟨_,st,λv z=>by
   have z':Data.fields _=Data.cell v:=z;cases z'⟩
 keep:=λi h h' st k=>k it (by simp) _ st
 item:=by
  intro X hP hw hK hc i pins s Z H E I hf st hg;subst hP hw hK;obtain⟨f0,f1,f2,f3,f4,f5⟩:=hf it (by simp);have W:=Walks.range (prog:=X.prog) (w:=X.w) (I.ok.hd hc) it lo 1 n;refine W.item i s _ _ hg st λv h' tk hv st' kk=>?_;obtain⟨t,rfl⟩:=hv;have I1:Inv X pins Z H {s with heap:=h',toks:=tk}:=I.turned (λb o hb e=>kk b o (by simpa using hb) e) f0 f1 f3 f4 f5;refine⟨_,rfl,Ki (s:={s with heap:=h',toks:=tk}) (n:="range_iterator") st' rfl rfl (by decide) ⟨.int (lo+i),H,I1,⟨t,?_⟩,⟨rfl,rfl⟩,st',λb hb=>(hf b hb).1⟩⟩;rw[Int.mul_one]
 done:=by
  intro X hP hw hK hc i pins s Z H E I hf st hg;subst hP hw hK;obtain⟨f0,f1,f2,f3,f4,f5⟩:=hf it (by simp);exact wpAny_pyNext_range_end (I.ok.hd hc) st (by have:n<=i:=hg;lia) λh' eb=>⟨rfl,I.turned (t':=s.toks) (λb o hb e=>eb b o hb e) f0 f1 f3 f4 f5⟩
 self:=λ_ _ _ _ _ st h=>wpAny_pyIter_rangeiter st h
end L2
namespace L2
open PySem PySem.Spec PyProof.Rows
section
variable{X:Cx}{tg:Expr}
def Yt{pins:List (Addr×Obj)}{Z:St}{H:Hp}{s:aI}{R:It->Hp->Prop}{E:aC->aI->Prop}{lo hi:Int}{t u v:Tok}{tk:Nat}(I:Inv X pins Z H s)(h1:-(2 ^ 62)<=lo)(h2:lo<2 ^ 62)(h3:-(2 ^ 62)<=hi)(h4:hi<2 ^ 62)
  (q:R (TN lo (hi - lo).toNat) H):bA (bH X.prog X.w) X.A (pyIter (.ref s.heap.objs.size)) (YV X pins Z tg R) E {s with heap:=s.heap.push {cls:=.type "range",data:=.fields #[.int lo t,.int hi u,.int 1 v]},toks:=tk}:=by
 refine wpAny_pyIter_range (IsRange.new ..) (small_one h1 h2 h3 h4) ?_;have I1:Inv X pins Z H {s with heap:=s.heap.push {cls:=.type "range",data:=.fields #[.int lo t,.int hi u,.int 1 v]},toks:=tk}:=I.kept λb o e=>aD _ e;refine⟨(s.heap.push {cls:=.type "range",data:=.fields #[.int lo t,.int hi u,.int 1 v]}).objs.size,[(s.heap.push {cls:=.type "range",data:=.fields #[.int lo t,.int hi u,.int 1 v]}).objs.size],_,_,H,rfl,
  I1.kept (t':=tk) λb o e=>aD _ e,O7 _ lo (hi - lo).toNat,?_,λb hb=>?_,q⟩
 ·have e1:lo+((0:Nat):Int) * 1=lo:=by simp
  have e2:(((hi - lo).toNat:Nat):Int) - ((0:Nat):Int)=jY lo hi 1:=by rw[rangeSize_one];split<;>lia
  show IsRangeIter _ _ (lo+((0:Nat):Int) * 1) ((((hi - lo).toNat:Nat):Int) - ((0:Nat):Int)) 1;rw[e1,e2];exact aX _ rfl
 ·have e:b=(s.heap.push {cls:=.type "range",data:=.fields #[.int lo t,.int hi u,.int 1 v]}).objs.size:=by simpa using hb
  subst e;exact I1.fpOk (aH _) (I1.hok.fresh (aH _))
def PC(ta:TA):TI:=λZ H R=>ta Z H λvs H1=>∃j:Int,vs=[.int j]/\-(2 ^ 62)<=j/\j<2 ^ 62/\R (TN 0 j.toNat) H1
def Te{a:Expr}{ta:TA}{p pos:Pos}(hg:Gl X "range")(hm:X.mg "range"=none)(ha:PA X [a] ta)(hs:bE [a] X.env=[(false,eval a X.env)]:=by rfl):PI X tg (.Call (.Name "range" p) [a] [] pos) (PC ta):=by
 intro pins s Z H R I h;refine Call_ (vw I hg hm boot_range (iN (i7 (ha pos pins s Z H _ I h) λus s1 ⟨vs,H1,I1,r1,q1⟩=>?_) hs rfl));obtain⟨j,e,q1,q2,q⟩:=q1;subst e;cases r1 with
 |cons r rr=>
  cases rr;obtain⟨t,rfl⟩:=r;exact call_range_1 (Yt I1 (by lia) (by lia) q1 q2 (by simpa using q))
def XM(wi:TI)(g:TG)(tb:TS):TS:=λD Z H=>wi Z H λJ H1=>∃W:Nat->Nat->St->Hp->Prop,(∃m,W 0 m Z H1)/\∀i m Z H,W i m Z H->
 (J.stop i H/\D.nx Z H)\/(J.go i H/\∃N:St->Hp->Prop,(∀σ' H',N σ' H'->∃m',m'<m/\W (i+1) m' σ' H')/\∀x H',J.yld i H x H'->g x Z H' λσ2 H2=>tb {D with nx:=N,ct:=N,bk:=D.nx} σ2 H2)
def zg(fp:List Addr)(h:Heap):List (Addr×Obj):=fp.filterMap λb=>(h.get? b).map λo=>(b,o)
def vz{h:Heap}(hb:b∈fp)(e:h.get? b=some o):(b,o)∈zg fp h:=List.mem_filterMap.mpr ⟨b,hb,by rw[e];rfl⟩
def Ta{h:Heap}(hp:p∈zg fp h):p.1∈fp/\h.get? p.1=some p.2:=by
 obtain⟨b,hb,e⟩:=List.mem_filterMap.mp hp;cases q:h.get? b with
 |none=>rw[q]at e;cases e
 |some o=>
  rw[q]at e;have e':(b,o)=p:=bS e;subst e';exact⟨hb,q⟩
def Inv.pinned{s:aI}(I:Inv X pins Z H s)(hf:∀b∈fp,yk X pins H b)(ho:∀b∈fp,∃o,s.heap.get? b=some o/\∀v,o.data≠.cell v):Inv X (pins++zg fp s.heap) Z H s:=
 I.pins_of λp hp=>(List.mem_append.mp hp).elim (λz=>I.pin p (bT _ z)) λz=>by
  obtain⟨hb,e⟩:=Ta z;obtain⟨f0,f1,f2,_⟩:=hf p.1 hb;obtain⟨o,e',d⟩:=ho p.1 hb;rw[e]at e';cases e';exact⟨e,f0,f1,f2,d⟩
def Inv.unpinned(I:Inv X (pins++pl) Z H s):Inv X pins Z H s:=I.pins_of λp hp=>I.pin p (bT _ (bW _ hp))
def LG(hp:pA (bH X.prog X.w) X.A X.env X.xe)(hc:X.calm=true)(hi:PI X tg iter wi)(hg:PG X tg g)(hb:PSs X body tb)
  (hs:∀x,gQ iter X.env x=pure x:=by intro _;rfl):PS X (.For tg iter body [] pos) (XM wi g tb):=by
 intro pins s Z H D I h;refine wpAny_For (i7 (hi pins s Z H _ I h) λv s1 h1=>i7 h1 λitv s2 h2=>?_) hs;obtain⟨it,fp,tn,J,H2,e,I2,T,st2,f2,W,⟨m0,w0⟩,turn⟩:=h2;subst e;have stat:∀{H':Hp},(∀b∈fp,H' b=none)->∀b∈fp,yk X pins H' b:=λhn b hb=>⟨hn b hb,(f2 b hb).2⟩;refine codeAny_forLoop_any (λn s'=>∃i σ' H',Inv X pins σ' H' s'/\tn i s'.heap/\(∀b∈fp,H' b=none)/\W i n σ' H') ?_ m0 ⟨0,Z,H2,I2,st2,λb hb=>(f2 b hb).1,w0⟩
 rintro n s3 ⟨i,σ3,H3,I3,st3,fr3,w3⟩
 rcases turn i n σ3 H3 w3 with ⟨stop,qn⟩|⟨go,N,hN,step⟩
 ·refine gN hp (i7 (T.done X rfl rfl rfl hc i pins s3 σ3 H3 X.xe I3 (stat fr3) st3 stop) λr s4 ⟨hr,I4⟩=>?_);subst hr;exact lT ⟨σ3,H3,I4,qn⟩
 ·refine gN hp (i7 (T.item X rfl rfl rfl hc i pins s3 σ3 H3 X.xe I3 (stat fr3) st3 go) λr s4 ⟨u,hr,h4⟩=>?_);subst hr;refine gN hp (i7 h4 λ_ s5 ⟨x,H5,I5,r5,y5,st5,fr5⟩=>?_);have I5':=I5.pinned (stat fr5) (T.obj _ _ st5);refine gN hp (i7 (hg _ s5 σ3 H5 x u _ I5' r5 (step x H5 y5)) λ_ s6 ⟨σ6,H6,I6,q6⟩=>?_);refine gN hp (i7 (hb _ s6 σ6 H6 _ I6 q6) λf s7 q7=>?_);have again:∀{σ7:St}{H7:Hp},Inv X (pins++zg fp s5.heap) σ7 H7 s7->N σ7 H7->∃m,m<n/\∃i σ' H',Inv X pins σ' H' s7/\tn i s7.heap/\(∀b∈fp,H' b=none)/\W i m σ' H':=λ{σ7 H7} I7 n7=>by
   obtain⟨m',hm,w7⟩:=hN σ7 H7 n7;refine⟨m',hm,i+1,σ7,H7,I7.unpinned,T.keep _ _ _ st5 λb hb o e=>(I7.pin (b,o) (bT _ (bT _ (vz hb e)))).1,λb hb=>?_,w7⟩;obtain⟨o,e,d⟩:=T.obj _ _ st5 b hb;exact(I7.pin (b,o) (bT _ (bT _ (vz hb e)))).2.1
  cases f with
  |next=>obtain⟨σ7,H7,I7,n7⟩:=q7;exact again I7 n7
  |cont=>obtain⟨σ7,H7,I7,n7⟩:=q7;exact again I7 n7
  |brk=>obtain⟨σ7,H7,I7,q7⟩:=q7;exact⟨σ7,H7,I7.unpinned,q7⟩
  |ret v=>obtain⟨x7,σ7,H7,I7,r7,q7⟩:=q7;exact⟨x7,σ7,H7,I7.unpinned,r7,q7⟩
end
end L2
namespace L2
open PySem PySem.Spec PyProof.Rows
abbrev R2:=V->V->Hp->VK->Prop
def OpR(X:Cx)(f:aC->aC->Sem aC)(r:R2):Prop:=
 ∀(pins:List (Addr×Obj))(s:aI)(Z:St)(H:Hp)(x y:V)(v u:aC)(Q:VK),Inv X pins Z H s->RelV x v->RelV y u->r x y H Q->
  bA (bH X.prog X.w) X.A (f v u) (EP X pins Z Q) X.xe s
def CallR(X:Cx)(f:aC)(r:List V->Hp->VK->Prop):Prop:=
 ∀(pins:List (Addr×Obj))(s:aI)(Z:St)(H:Hp)(xs:List V)(us:List aC)(Q:VK),Inv X pins Z H s->Vals xs us->r xs H Q->
  bA (bH X.prog X.w) X.A (call f us) (EP X pins Z Q) X.xe s
def WU(X:Cx)(r:V->Hp->(Bool->Hp->Prop)->Prop):Prop:=
 ∀(pins:List (Addr×Obj))(s:aI)(Z:St)(H:Hp)(x:V)(v:aC)(Q:Bool->Hp->Prop),Inv X pins Z H s->RelV x v->r x H Q->
  bA (bH X.prog X.w) X.A (truthy v) (TP X pins Z Q) X.xe s
def SQ(r:R2)(ta tb:TE):TE:=λZ H Q=>ta Z H λx H1=>tb Z H1 λy H2=>r x y H2 Q
def rI(C:Int->Int->Prop)(g:Int->Int->V):R2:=λx y H Q=>∃i j,x=.int i/\y=.int j/\C i j/\Q (g i j) H
def AV(g:Int->Int->V):R2:=λx y H Q=>∃i j,x=.int i/\y=.int j/\Q (g i j) H
section
variable{X:Cx}{a b c:Expr}{ta tb tc:TE}{pos:Pos}
def IT(ha:PE X a ta)(hb:PE X b tb){pins:List (Addr×Obj)}{s:aI}{Z:St}{H:Hp}{R:V->V->Hp->Prop}(I:Inv X pins Z H s)
  (h:ta Z H λx H1=>tb Z H1 λy H2=>R x y H2){Q:aC->aI->Prop}{f:aC->aC->Sem aC}
  (hf:∀v u s2 x y H2,Inv X pins Z H2 s2->RelV x v->RelV y u->R x y H2->bA (bH X.prog X.w) X.A (f v u) Q X.xe s2):
  bA (bH X.prog X.w) X.A (eval a X.env) (λv s₁=>bA (bH X.prog X.w) X.A (eval b X.env) (λu s₂=>bA (bH X.prog X.w) X.A (f v u) Q X.xe s₂) X.xe s₁) X.xe s:=by
 refine i7 (ha pins s Z H _ I h) λv s1 ⟨x,H1,I1,r1,q1⟩=>?_;refine i7 (hb pins s1 Z H1 _ I1 q1) λu s2 ⟨y,H2,I2,r2,q2⟩=>?_;exact hf v u s2 x y H2 I2 r1 r2 q2
def HX{op:Operator}(ho:OpR X (gR op) r)(ha:PE X a ta)(hb:PE X b tb):PE X (.BinOp a op b pos) (SQ r ta tb):=by
 intro pins s Z H Q I h;exact wpAny_BinOp (IT ha hb I h λv u s2 x y H2 I2 rx ry q=>ho pins s2 Z H2 x y v u Q I2 rx ry q)
def WE{g:Int->Int->Int}
  (rule:∀(i j:Int)(t u:Tok)(s:aI)(Q:aC->aI->Prop)(E:aC->aI->Prop),C i j->Q (.int (g i j) s.toks) {s with toks:=s.toks+1}->bA (bH X.prog X.w) X.A (f (.int i t) (.int j u)) Q E s):
  OpR X f (rI C λi j=>.int (g i j)):=by
 intro pins s Z H x y v u Q I rx ry h;obtain⟨i,j,rfl,rfl,hc,q⟩:=h;obtain⟨t,rfl⟩:=rx;obtain⟨t',rfl⟩:=ry;exact rule i j t t' s _ _ hc ⟨.int (g i j),H,I.tok _,⟨_,rfl⟩,q⟩
def QM{g:Int->Int->Int}
  (rule:∀(i j:Int)(t u:Tok)(s:aI)(Q:aC->aI->Prop)(E:aC->aI->Prop),Q (.int (g i j) s.toks) {s with toks:=s.toks+1}->bA (bH X.prog X.w) X.A (f (.int i t) (.int j u)) Q E s):
  OpR X f (AV λi j=>.int (g i j)):=by
 intro pins s Z H x y v u Q I rx ry h;obtain⟨i,j,rfl,rfl,q⟩:=h;obtain⟨t,rfl⟩:=rx;obtain⟨t',rfl⟩:=ry;exact rule i j t t' s _ _ ⟨.int (g i j),H,I.tok _,⟨_,rfl⟩,q⟩
def DX{g:Int->Int->Bool}
  (rule:∀(i j:Int)(t u:Tok)(s:aI)(Q:aC->aI->Prop)(E:aC->aI->Prop),Q (.bool (g i j)) s->bA (bH X.prog X.w) X.A (f (.int i t) (.int j u)) Q E s):
  OpR X f (AV λi j=>.bl (g i j)):=by
 intro pins s Z H x y v u Q I rx ry h;obtain⟨i,j,rfl,rfl,q⟩:=h;obtain⟨t,rfl⟩:=rx;obtain⟨t',rfl⟩:=ry;exact rule i j t t' s _ _ ⟨.bl (g i j),H,I,rfl,q⟩
def VE(i j:Int):Prop:=0<j/\j<1073741824
def CMul(i j:Int):Prop:=(-(2 ^ 64)<i/\i<2 ^ 64)\/(-(2 ^ 64)<j/\j<2 ^ 64)
def CMul.ok(h:CMul i j):IntMulOk i j:=by
 rcases h with ⟨h1,h2⟩|⟨h1,h2⟩
 ·exact .of_left (intBits_le_64 h1 h2)
 ·exact .of_right (intBits_le_64 h1 h2)
def KN:OpR X (gR .Add) (AV λi j=>.int (i+j)):=QM λ_ _ _ _ _ _ _ q=>add_int q
def KC:OpR X (gR .Sub) (AV λi j=>.int (i - j)):=QM λ_ _ _ _ _ _ _ q=>sub_int q
def KG:OpR X (gR .Mult) (rI CMul λi j=>.int (i * j)):=WE λ_ _ _ _ _ _ _ hc q=>mul_int q hc.ok
def DU:OpR X (gR .FloorDiv) (rI VE λi j=>.int (i / j)):=WE λi j _ _ _ _ _ hc q=>by
 have h1:(0:Int)<j:=hc.1;have h2:j<1073741824:=hc.2;exact floordiv_int (by lia) (by rw[Int.fdiv_eq_ediv_of_nonneg i (by lia)];exact q) (.inl (PyProof.noPylong_small (by lia)))
def KH:OpR X (gR .Mod) (rI (λ_ j=>0<j) λi j=>.int (i % j)):=WE λi j _ _ _ _ _ hc q=>by
 have h1:(0:Int)<j:=hc;exact mod_int' (by lia) (by rw[Int.fmod_eq_emod_of_nonneg i (by lia)];exact q)
end
section
variable{X:Cx}{a b c:Expr}{ta tb tc:TE}{pos:Pos}
def Hf(I:Inv X pins Z H s)(q:Q (.bl k) H)(e:k=k'):EP X pins Z Q (.bool k') s:=by
 subst e;exact⟨.bl k,H,I,rfl,q⟩
def QI:OpR X (cF .Lt) (AV λi j=>.bl (decide (i<j))):=DX λ_ _ _ _ _ _ _ q=>lt_int q
def QJ:OpR X (cF .LtE) (AV λi j=>.bl (decide (i<=j))):=DX λ_ _ _ _ _ _ _ q=>le_int q
def QK:OpR X (cF .Gt) (AV λi j=>.bl (decide (j<i))):=DX λ_ _ _ _ _ _ _ q=>gt_int q
def QL:OpR X (cF .GtE) (AV λi j=>.bl (decide (j<=i))):=DX λ_ _ _ _ _ _ _ q=>ge_int q
def Tc:OpR X (cF .In) (λx y H Q=>∃i j,x=.str i/\y=.str j/\Q (.bl (!(jZ j i 0 j.length 1).isEmpty)) H):=by
 intro pins s Z H x y v u Q I rx ry h;obtain⟨i,j,rfl,rfl,q⟩:=h;obtain⟨t,rfl⟩:=rx;obtain⟨t',rfl⟩:=ry;exact in_str (Hf I q rfl)
def KI:OpR X (cF .Is) (λx y H Q=>y=.non/\Q (.bl (decide (x=.non))) H):=by
 intro pins s Z H x y v u Q I rx ry h;obtain⟨rfl,q⟩:=h;cases ry;refine is_none_gen (Hf I q ?_);cases x<;>first
  |(cases rx;rfl)
  |(obtain⟨t,rfl⟩:=rx;rfl)
def DR:OpR X (cF .IsNot) (λx y H Q=>y=.non/\Q (.bl (!decide (x=.non))) H):=by
 intro pins s Z H x y v u Q I rx ry h;obtain⟨rfl,q⟩:=h;cases ry;refine isnot_none_gen (Hf I q ?_);cases x<;>first
  |(cases rx;rfl)
  |(obtain⟨t,rfl⟩:=rx;rfl)
def Hy:OpR X (cF .NotIn) (λx y H Q=>∃i j,x=.str i/\y=.str j/\Q (.bl (!(!(jZ j i 0 j.length 1).isEmpty))) H):=by
 intro pins s Z H x y v u Q I rx ry h;obtain⟨i,j,rfl,rfl,q⟩:=h;obtain⟨t,rfl⟩:=rx;obtain⟨t',rfl⟩:=ry;exact notIn_str (Hf I q rfl)
def OpR.or(h:OpR X f r)(h':OpR X f r'):OpR X f (λx y H Q=>r x y H Q\/r' x y H Q):=by
 intro pins s Z H x y v u Q I rx ry q;rcases q with q|q
 ·exact h pins s Z H x y v u Q I rx ry q
 ·exact h' pins s Z H x y v u Q I rx ry q
def DK{op:CmpOp}(ho:OpR X (cF op) r)(ha:PE X a ta)(hb:PE X b tb)(hm:lH op b=false):PE X (.Compare a [op] [b] pos) (SQ r ta tb):=by
 intro pins s Z H Q I h;exact wpAny_Compare1 (IT ha hb I h λv u s2 x y H2 I2 rx ry q=>ho pins s2 Z H2 x y v u Q I2 rx ry q) hm
def HJ(t:TE):TT:=λZ H Q=>t Z H λx H'=>∃k,x=.bl k/\Q k H'
def EV(ho:OpR X (cF op) r)(ha:PE X a ta)(hb:PE X b tb)(hm:lH op b=false):PT X (.Compare a [op] [b] pos) (HJ (SQ r ta tb)):=by
 intro pins s Z H Q I h;refine wpAny_isTrue_Compare1 (i7 (ha pins s Z H _ I h) λv s1 ⟨x,H1,I1,r1,q1⟩=>i7 (hb pins s1 Z H1 _ I1 q1) λu s2 ⟨y,H2,I2,r2,q2⟩=>
  i7 (ho pins s2 Z H2 x y v u _ I2 r1 r2 q2) λc s3 ⟨z,H3,I3,r3,k,e,q3⟩=>?_) hm
 subst e;cases r3;exact dX ⟨H3,I3,q3⟩
def Oy(r r':R2)(ta tb tc:TE):TE:=λZ H Q=>ta Z H λx H1=>tb Z H1 λy H2=>r x y H2 λz H3=>∃k,z=.bl k/\
 (if k=true then tc Z H3 λw' H4=>r' y w' H4 Q else Q (.bl false) H3)
def Xs(ho:OpR X (cF op) r)(ho':OpR X (cF op') r')(ha:PE X a ta)(hb:PE X b tb)(hc:PE X c tc)
  (hm:pB [op,op'] [b,c]=false:=by with_unfolding_all rfl):PE X (.Compare a [op,op'] [b,c] pos) (Oy r r' ta tb tc):=by
 intro pins s Z H Q I h;refine Compare_chain (i7 (ha pins s Z H _ I h) λv s1 ⟨x,H1,I1,r1,q1⟩=>chain_link (i7 (hb pins s1 Z H1 _ I1 q1) λu s2 ⟨y,H2,I2,r2,q2⟩=>
  i7 (ho pins s2 Z H2 x y v u _ I2 r1 r2 q2) λd s3 ⟨z,H3,I3,r3,k,e,q3⟩=>?_)) hm
 subst e;cases r3;refine dX ?_;cases k with
 |false=>exact ite_ff ⟨.bl false,H3,I3,rfl,q3⟩
 |true=>exact ite_tt (chain_last (i7 (hc pins s3 Z H3 _ I3 q3) λw' s4 ⟨z',H4,I4,r4,q4⟩=>ho' pins s4 Z H4 y z' u w' Q I4 r2 r4 q4))
def Yb(ho:OpR X (cF op) r)(ho':OpR X (cF op') r')(ha:PE X a ta)(hb:PE X b tb)(hc:PE X c tc)
  (hm:pB [op,op'] [b,c]=false:=by with_unfolding_all rfl):PT X (.Compare a [op,op'] [b,c] pos) (HJ (Oy r r' ta tb tc)):=by
 intro pins s Z H Q I h;refine isTrue_chain (i7 (ha pins s Z H _ I h) λv s1 ⟨x,H1,I1,r1,q1⟩=>test_link (i7 (hb pins s1 Z H1 _ I1 q1) λu s2 ⟨y,H2,I2,r2,q2⟩=>
  i7 (ho pins s2 Z H2 x y v u _ I2 r1 r2 q2) λd s3 ⟨z,H3,I3,r3,k,e,q3⟩=>?_)) hm
 subst e;cases r3;refine dX ?_;cases k with
 |false=>
  obtain⟨k',e',q'⟩:=q3;cases e';exact ite_ff ⟨H3,I3,q'⟩
 |true=>
  refine ite_tt (test_last (i7 (hc pins s3 Z H3 _ I3 q3) λw' s4 ⟨z',H4,I4,r4,q4⟩=>i7 (ho' pins s4 Z H4 y z' u w' _ I4 r2 r4 q4) λd' s5 ⟨z2,H5,I5,r5,k2,e2,q5⟩=>?_));subst e2;cases r5;exact dX ⟨H5,I5,q5⟩
def IZ(K:aU)(x:V)(H:Hp)(k:Bool):Prop:=
 match x with
 |.non=>k=false
 |.bl b=>k=b
 |.int i=>k=(i !=0)
 |.str y=>y.length<=aQ/\k=((y.length:Int) !=0)
 |.byt y=>y.size<=aQ/\k=((y.size:Int) !=0)
 |.ref p=>(∃xs,SqL K H p xs/\k= !xs.isEmpty)\/(∃xs,SqT K H p xs/\k= !xs.isEmpty)\/∃kvs,H p=some (.dK kvs)/\k= !kvs.isEmpty
 |_=>False
def Nq{kvs:List (κ×V)}{vs:List (κ×aC)}(r:KV kvs vs):(!vs.isEmpty)= !kvs.isEmpty:=by
 cases r<;>rfl
def Cm{xs:List V}{its:List aC}(r:Vals xs its):(!its.toArray.isEmpty)= !xs.isEmpty:=by
 cases r<;>simp
def C4:(aQ:Nat)<2 ^ 63:=by rw[cD];decide
def NB:WU X (λx H Q=>∃k,IZ X.K x H k/\Q k H):=by
 intro pins s Z H x v Q I rx h;obtain⟨k,e,q⟩:=h;have hl:=C4;have hs:aQ=16777216:=cD;cases x with
 |non=>
  cases rx;have e':k=false:=e;subst e';exact truthy_none ⟨H,I,q⟩
 |bl b=>
  cases rx;have e':k=b:=e;subst e';exact dX ⟨H,I,q⟩
 |int i=>
  obtain⟨t,rfl⟩:=rx;have e':k=(i !=0):=e;subst e';exact PySem.P.truthy_int ⟨H,I,q⟩
 |str y=>
  obtain⟨t,rfl⟩:=rx;obtain⟨hy,e'⟩:y.length<=aQ/\k=((y.length:Int) !=0):=e;subst e';exact PySem.P.truthy_str (by lia) ⟨H,I.tok _,q⟩
 |byt y=>
  obtain⟨t,rfl⟩:=rx;obtain⟨hy,e'⟩:y.size<=aQ/\k=((y.size:Int) !=0):=e;subst e';exact PySem.W.truthy_bytes (by lia) ⟨H,I.tok _,q⟩
 |ref p=>
  cases rx;have e':(∃xs,SqL X.K H p xs/\k= !xs.isEmpty)\/(∃xs,SqT X.K H p xs/\k= !xs.isEmpty)\/∃kvs,H p=some (.dK kvs)/\k= !kvs.isEmpty:=e;rcases e' with ⟨xs,hx,e'⟩|⟨xs,hx,e'⟩|⟨kvs,hx,e'⟩
  ·subst e';obtain⟨its,r,pl,hz⟩:=I.list hx;have hlen:=r.length;exact wpAny_truthy_list pl.isList (by simp only[bC];lia) ⟨H,I.tok _,by rw[Cm r];exact q⟩
  ·subst e';obtain⟨its,r,pl,hz⟩:=I.tuple hx;have hlen:=r.length;exact truthy_tuple pl (by simp only[bC];lia) ⟨H,I.tok _,by rw[Cm r];exact q⟩
  ·subst e';obtain⟨hz,hS,vs,r,m⟩:kvs.length<=aQ/\(p==gF)=false/\∃vs,KV kvs vs/\s.heap.DictOf (cb X.prog X.w) p vs:=I.hok p _ hx;have hlen:kvs.length=vs.length:=Paired.length r;exact wpAny_truthy_dict hS m (by lia) ⟨H,I.tok _,by rw[Nq r];exact q⟩
 |_=>exact(show False from e).elim
def Yd(ha:PE X a ta)(he:∀whole,isTrue a X.env whole=(do let v <-whole;standAt a.pos;holding [v] (truthy v))):
  PT X a (λZ H Q=>ta Z H λx H'=>∃k,IZ X.K x H' k/\Q k H'):=by
 intro pins s Z H Q I h;exact isTrue_plain (i7 (ha pins s Z H _ I h) λv s1 ⟨x,H1,I1,r1,q1⟩=>NB pins s1 Z H1 x v Q I1 r1 q1) (he _)
def N6:OpR X (gR .Add) (λx y H Q=>∃i j,x=.str i/\y=.str j/\i.length+j.length<=aQ/\Q (.str (i++j)) H):=by
 intro pins s Z H x y v u Q I rx ry h;obtain⟨i,j,rfl,rfl,hz,q⟩:=h;obtain⟨t,rfl⟩:=rx;obtain⟨t',rfl⟩:=ry;exact add_str (λt' tk=>⟨.str (i++j),H,I.tok _,⟨_,rfl⟩,q⟩) hz
def mh(r:Vals [x] us):∃u,us=[u]/\RelV x u:=by
 cases r with
 |cons r1 r2=>cases r2;exact⟨_,rfl,r1⟩
def Z6(r:Vals [x,y] us):∃u w',us=[u,w']/\RelV x u/\RelV y w':=by
 cases r with
 |cons r1 r2=>
  cases r2 with
  |cons r3 r4=>cases r4;exact⟨_,_,rfl,r1,r3⟩
def Rx:CallR X (.type "int") (λxs H Q=>(∃i,xs=[.int i]/\Q (.int i) H)\/∃k,xs=[.bl k]/\Q (.int (if k then 1 else 0)) H):=by
 intro pins s Z H xs us Q I r h;rcases h with ⟨i,rfl,q⟩|⟨k,rfl,q⟩
 ·obtain⟨u,rfl,t,rfl⟩:=mh r;exact call_int_int ⟨.int i,H,I,⟨_,rfl⟩,q⟩
 ·obtain⟨u,rfl,r1⟩:=mh r;cases r1;exact call_int_bool ⟨.int (if k then 1 else 0),H,I.tok _,⟨_,rfl⟩,q⟩
def WY(K:aU)(x:V)(H:Hp)(n:Nat):Prop:=
 match x with
 |.str y=>y.length<=aQ/\n=y.length
 |.byt y=>y.size<=aQ/\n=y.size
 |.ref p=>(∃xs,SqL K H p xs/\n=xs.length)\/∃xs,SqT K H p xs/\n=xs.length
 |_=>False
def Vc:CallR X (.builtin "len") (λxs H Q=>∃x n,xs=[x]/\WY X.K x H n/\Q (.int n) H):=by
 intro pins s Z H xs us Q I r h;obtain⟨x,n,rfl,e,q⟩:=h;obtain⟨u,rfl,rx⟩:=mh r;have hl:=C4;have hs:aQ=16777216:=cD;cases x with
 |str y=>
  obtain⟨t,rfl⟩:=rx;obtain⟨hy,e'⟩:y.length<=aQ/\n=y.length:=e;subst e';exact len_str (by lia) ⟨.int _,H,I.tok _,⟨_,rfl⟩,q⟩
 |byt y=>
  obtain⟨t,rfl⟩:=rx;obtain⟨hy,e'⟩:y.size<=aQ/\n=y.size:=e;subst e';exact PySem.W.len_bytes (by lia) ⟨.int _,H,I.tok _,⟨_,rfl⟩,q⟩
 |ref p=>
  cases rx;have e':(∃xs,SqL X.K H p xs/\n=xs.length)\/∃xs,SqT X.K H p xs/\n=xs.length:=e;rcases e' with ⟨xs,hx,e'⟩|⟨xs,hx,e'⟩
  ·subst e';obtain⟨its,r',pl,hz⟩:=I.list hx;have hlen:=r'.length;exact Calls.call_len_list pl.isList (by simp only[bC];lia) ⟨.int xs.length,H,I.tok _,⟨_,by simp only[bC];rw[hlen]⟩,q⟩
  ·subst e';obtain⟨its,r',pl,hz⟩:=I.tuple hx;have hlen:=r'.length;exact len_tuple pl (by simp only[bC];lia) ⟨.int xs.length,H,I.tok _,⟨_,by simp only[bC];rw[hlen]⟩,q⟩
 |_=>exact(show False from e).elim
end
end L2
namespace L2
open PySem PySem.Spec PyProof.Rows
def RelO.some_of(r:RelO (some v) o):∃u,o=some u/\RelV v u:=by
 cases o with
 |none=>exact(show False from r).elim
 |some u=>exact⟨u,rfl,r⟩
end L2
namespace L2
open PySem PySem.Spec PyProof.Rows
structure Room(k:Nat)(A:cG):Prop where
 hd:A.handled=none
 dp:A.depth+3 * k+5<mH
 un:A.units+16 * k+200<eL
theorem Room.deeper{A:cG}(r:Room (k+1) A)(env:Env):Room k (A.deeper env):=
 ⟨r.hd,by have:=r.dp;show A.depth+1+3 * k+5<_;lia,by have:=r.un;show A.units+3+16 * k+200<_;lia⟩
theorem Room.depth{A:cG}(r:Room k A):A.depth<mH:=by have:=r.dp;lia
def FF:TA:=λ_ H Q=>Q [] H
def Zl(ta:TE)(tr:TA):TA:=λZ H Q=>ta Z H λx H1=>tr Z H1 λxs H2=>Q (x::xs) H2
section
variable{X:Cx}{e:Expr}{es:List Expr}{te:TE}{t:TA}{pos:Pos}
def zf:PA X [] FF:=λ_ _ _ _ H Q I h=>Calls.spliced_nil ⟨[],H,I,.nil,h⟩
def oq(ha:PE X e te)(hr:PA X es t)(hs:bE (e::es) X.env=(false,eval e X.env)::bE es X.env:=by rfl):PA X (e::es) (Zl te t):=by
 intro pos pins s Z H Q I h;rw[hs];show bA _ _ (spliced ((false,eval e X.env)::eZ pos (bE es X.env))) _ _ s;refine mI (i7 (ha pins s Z H _ I h) λu s1 ⟨x,H1,I1,r1,q1⟩=>?_);exact i7 (hr pos pins s1 Z H1 _ I1 q1) λus s2 ⟨xs,H2,I2,r2,q2⟩=>⟨x::xs,H2,I2,.cons r1 r2,q2⟩
def XE(t:TA):TE:=λZ H Q=>t Z H λxs H1=>xs.length<=aQ/\∀p,H1 p=none->Q (.ref p) (upd H1 p (.tup xs))
def XI(t:TA):TE:=λZ H Q=>t Z H λxs H1=>xs.length<=aQ/\∀p,H1 p=none->Q (.ref p) (upd H1 p (.lst xs))
def LP{x1}(h:PA X es t):PE X (.Tuple es x1 pos) (XE t):=by
 intro pins s Z H Q I hq;refine wpAny_Tuple_spliced (i7 (h pos pins s Z H _ I hq) λus s1 ⟨xs,H1,I1,r,z,q⟩=>⟨by rw[<-r.length];exact z,?_⟩);have hf:H1 s1.heap.objs.size=none:=I1.hok.fresh (aH _);refine⟨.ref s1.heap.objs.size,upd H1 s1.heap.objs.size (.tup xs),I1.laid (t':=s1.toks) (λb u e=>aD _ e) (aH _) ?_,rfl,q _ hf⟩;exact⟨z,us,r,⟨_,aX _ rfl,rfl,_,rfl⟩⟩
def LV(h:PA X es t):PE X (.List es pos) (XI t):=by
 intro pins s Z H Q I hq;refine wpAny_List_spliced (i7 (h pos pins s Z H _ I hq) λus s1 ⟨xs,H1,I1,r,z,q⟩=>⟨by rw[<-r.length];exact z,?_⟩);have hf:H1 s1.heap.objs.size=none:=I1.hok.fresh (aH _);refine⟨.ref s1.heap.objs.size,upd H1 s1.heap.objs.size (.lst xs),I1.laid (t':=s1.toks) (λb u e=>aD _ e) (aH _) ?_,rfl,q _ hf⟩;exact⟨z,us,0,r,aX _ rfl⟩
end
abbrev Sp:=List V->Hp->VK->XK->Prop
abbrev AZ:=List Env->Hp->aI->XK->aC->aI->Prop
structure Env0(P:bQ)(w:bZ)(K:aU)(mg:Str->Option aC)(base:Heap)(A:cG)(outer:List Env)(s:aI)(H:Hp):Prop where
 frames:A.frames=some outer
 mod:Mod K mg base
 bs:∀b o,base.get? b=some o->s.heap.get? b=some o/\H b=none
 bsz:base.objs.size<=s.heap.objs.size
 funs:s.heap.FunFrames base outer
 frf:∀b∈El outer,H b=none
 hok:HOk P w H s.heap
 bare:mC s.gens
def CE(outer:List Env)(P:bQ)(w:bZ)(H:Hp)(s:aI)(Q:VK)(u:aC)(s':aI):Prop:=
 ∃v H',s'.os=s.os/\mC s'.gens/\Un (El outer) [] H H' s.heap s'.heap/\HOk P w H' s'.heap/\RelV v u/\Q v H'
def CR(CX:AZ)(outer:List Env)(P:bQ)(w:bZ)(H:Hp)(s:aI)(Q:VK)(E:XK)(r:Result)(s':aI):Prop:=
 match r with
 |.ok (.ret u)=>CE outer P w H s Q u s'
 |.ok _=>False
 |.error e=>CX outer H s E e s'
structure FnOk(P:bQ)(w:bZ)(K:aU)(mg:Str->Option aC)(base:Heap)(CX:AZ)(k:Nat)(f:Addr)(fd:iC)(ps:List Str)(sp:Sp):Prop where
 len:∀vs H Q E,sp vs H Q E->vs.length=ps.length
 run:∀(A:cG)(outer:List Env)(s:aI)(H:Hp)(args:Args)(us:List aC)(vs:List V)(Q:VK)(E:XK),Room k A->Env0 P w K mg base A outer s H->BindsTo s fd args (ps.zip us)->Vals vs us->sp vs H Q E->
  iO (bH P w) A (.call (.ref f) args) (CR CX outer P w H s Q E) s
def FnOk.imp{P:bQ}{w:bZ}{K:aU}{mg:Str->Option aC}{base:Heap}{CX:AZ}{k:Nat}{f:Addr}{fd:iC}{ps:List Str}{sp sp':Sp}(F:FnOk P w K mg base CX k f fd ps sp)
  (h:∀vs H Q E,sp' vs H Q E->sp vs H Q E):FnOk P w K mg base CX k f fd ps sp':=
 ⟨λvs H Q E q=>F.len vs H Q E (h _ _ _ _ q),λA outer s H args us vs Q E hr he hb hv hs=>F.run A outer s H args us vs Q E hr he hb hv (h _ _ _ _ hs)⟩
section
variable{X:Cx}{pins:List (Addr×Obj)}{Z:St}{H:Hp}{s s':aI}
def Inv.env0(I:Inv X pins Z H s):Env0 X.prog X.w X.K X.mg X.base X.A X.stack s H:=
 ⟨I.ok.frames,I.ok.mod,I.bs,cB I.ok.bsz I.sz,I.stack,I.stkFree,I.hok,I.bare⟩
def Inv.after(I:Inv X pins Z H s)(h:CE X.stack X.prog X.w H s Q u s'):EP X pins Z Q u s':=by
 obtain⟨v,H',os,bare,un,hok,r,q⟩:=h;obtain⟨hh,g,d,t,os'⟩:=s';obtain rfl:os'=s.os:=os;exact⟨v,H',I.call (h':=hh) (g':=g) (d':=d) (t':=t) (ch:=[]) un hok bare (λb z=>absurd z (by simp)),r,q⟩
end
def HL(sp:Sp)(dvs:List V)(E:XK)(t:TA):TE:=λZ H Q=>t Z H λvs H1=>sp (vs++dvs) H1 Q E
def Binds(K:aU)(fd:iC)(ps:List Str)(ds:List aC):Prop:=
 ∀(s:aI)(us:List aC),K.In s.heap->(us++ds).length=ps.length->BindsTo s fd ⟨us,[]⟩ (ps.zip (us++ds))
def Binds.all{K:aU}{fd:iC}{ps:List Str}(h:∀us:List aC,us.length=ps.length->bindArgs fd ⟨us,[]⟩=pure (ps.zip us)):Binds K fd ps []:=λs us _ hl=>by
 rw[cA]at hl⊢;exact .of_eq (h us hl)
def ro(CX:AZ)(X:Cx)(E:XK):Prop:=∀(pins:List (Addr×Obj))(Z:St)(H:Hp)(s:aI)(e:aC)(s':aI),Inv X pins Z H s->CX X.stack H s E e s'->X.xe e s'
section
variable{X:Cx}{CX:AZ}{k:Nat}{f C:Addr}{fd:iC}{ps:List Str}{sp:Sp}{dvs:List V}{ds:List aC}{E:XK}{x m:Str}{p pos apos:Pos}{e o:Expr}{es:List Expr}{ta:TE}{t:TA}
def Oe(F:FnOk X.prog X.w X.K X.mg X.base CX k f fd ps sp)(hr:Room k X.A)(hb:Binds X.K fd ps ds)(hd:Vals dvs ds)(hx:ro CX X E)
  (I:Inv X pins Z H s)(r:Vals vs us)(h:sp (vs++dvs) H Q E):bA (bH X.prog X.w) X.A (call (.ref f) us) (EP X pins Z Q) X.xe s:=by
 have r2:Vals (vs++dvs) (us++ds):=r.append hd;have hl:(us++ds).length=ps.length:=by rw[<-r2.length];exact F.len _ _ _ _ h
 refine mJ (eP (F.run X.A X.stack s H ⟨us,[]⟩ (us++ds) (vs++dvs) Q E hr I.env0 (hb s us I.kIn hl) r2 h) λr s' hq=>?_);cases r with
 |error e=>exact hx pins Z H s e s' I hq
 |ok fl=>
  cases fl with
  |ret u=>exact I.after hq
  |next=>exact eR hq
  |brk=>exact eR hq
  |cont=>exact eR hq
def DL(F:FnOk X.prog X.w X.K X.mg X.base CX k f fd ps sp)(hr:Room k X.A)(hg:Gl X x)(hm:X.mg x=some (.ref f))(hk:cX X.K (.ref f)=true)(hb:Binds X.K fd ps ds)(hd:Vals dvs ds)(hx:ro CX X E)
  (ha:PA X (e::es) t)(hdb:(x==("__debug__":Str))=false:=by decide)(he:bE (e::es) X.env=(false,eval e X.env)::bE es X.env:=by rfl)(hpl:(eZ pos (bE es X.env)).any (·.1)=false:=by rfl):
  PE X (.Call (.Name x p) (e::es) [] pos) (HL sp dvs E t):=by
 intro pins s Z H Q I h;refine eS (A8 I hg hm ?_ hdb);refine PySem.W.callWith_K (h₀:=X.base) I.ok.mod.kin hk (i7 (ha pos pins s Z H _ I h) λus s1 ⟨vs,H1,I1,r,q⟩=>⟨I1.kIn,?_⟩) he hpl;exact Oe F hr hb hd hx I1 r q
def Xr(F:FnOk X.prog X.w X.K X.mg X.base CX k f fd ps sp)(hr:Room k X.A)(hg:Gl X x)(hm:X.mg x=some (.ref f))(hk:cX X.K (.ref f)=true)(hb:Binds X.K fd ps ds)(hd:Vals dvs ds)(hx:ro CX X E)
  (hdb:(x==("__debug__":Str))=false:=by decide):PE X (.Call (.Name x p) [] [] pos) (HL sp dvs E FF):=by
 intro pins s Z H Q I h;refine eS (A8 I hg hm ?_ hdb);exact PySem.W.callWith_K0 I.kIn hk (Oe (us:=[]) F hr hb hd hx I .nil h)
structure Mk(K:aU)(C f:Addr):Prop where
 makes:PySem.W.makesIn K C=true
 init:PySem.W.findIn K (.ref C) "__init__"=some (some (.ref f))
 fn:PySem.W.isFn K (.ref f)=true
 kp:cX K (.ref C)=true
end
structure FnScope(N P:List Str)(sc:eI):Prop where
 kind:sc.kind=.function
 co:sc.isCoroutine=false
 gen:sc.isGenerator=false
 nd:N.Nodup
 pre:N.take P.length=P
 par:∀x∈P,sc.names.lookup x=some .local\/sc.names.lookup x=some .cell
 nofree:∀y∈sc.names,y.2≠.free
theorem E9{kindOf:Str->Option fP}{x:Str}:∀{binds:List (Str×aC)}{m:Str->Option aC},(∀v,(x,v)∉binds)->bindL kindOf binds m x=m x
 |[],_,_=>rfl
 |(n,v)::r,m,h=>by
  unfold bindL;rw[E9 λw hw=>h w (aK _ hw)];split
  ·have:x≠n:=by rintro rfl;exact h v aN
   simp[this]
  ·rfl
theorem E7{kindOf:Str->Option fP}{x:Str}:∀{binds:List (Str×aC)}{m:Str->Option aC},(∀v,(x,v)∉binds)->bindC kindOf binds m x=m x
 |[],_,_=>rfl
 |(n,v)::r,m,h=>by
  unfold bindC;rw[E7 λw hw=>h w (aK _ hw)];split
  ·rfl
  ·have:x≠n:=by rintro rfl;exact h v aN
   simp[this]
theorem E8{kindOf:Str->Option fP}{x:Str}{v:aC}:∀{P:List Str}{vs:List aC}{i:Nat}{m:Str->Option aC},P.Nodup->P[i]?=some x->vs[i]?=some v->kindOf x=some .local->
  bindL kindOf (P.zip vs) m x=some v
 |[],_,_,_,_,h,_,_=>by simp at h
 |_::_,[],_,_,_,_,h,_=>by simp at h
 |p::P,w::vs,0,m,nd,h1,h2,hk=>by
  simp at h1 h2;subst h1;subst h2;show bindL kindOf ((p,w)::P.zip vs) m p=_;unfold bindL;rw[E9 λv hv=>(List.nodup_cons.mp nd).1 (oP hv).1,aG hk];simp
 |p::P,w::vs,i+1,m,nd,h1,h2,hk=>by
  show bindL kindOf ((p,w)::P.zip vs) m x=_;unfold bindL;exact E8 (i:=i) (List.nodup_cons.mp nd).2 (by simpa using h1) (by simpa using h2) hk
theorem E6{kindOf:Str->Option fP}{x:Str}{v:aC}:∀{P:List Str}{vs:List aC}{i:Nat}{m:Str->Option aC},P.Nodup->P[i]?=some x->vs[i]?=some v->kindOf x≠some .local->
  bindC kindOf (P.zip vs) m x=some v
 |[],_,_,_,_,h,_,_=>by simp at h
 |_::_,[],_,_,_,_,h,_=>by simp at h
 |p::P,w::vs,0,m,nd,h1,h2,hk=>by
  simp at h1 h2;subst h1;subst h2;show bindC kindOf ((p,w)::P.zip vs) m p=_;unfold bindC;rw[E7 λv hv=>(List.nodup_cons.mp nd).1 (oP hv).1,aJ hk];simp
 |p::P,w::vs,i+1,m,nd,h1,h2,hk=>by
  show bindC kindOf ((p,w)::P.zip vs) m x=_;unfold bindC;exact E6 (i:=i) (List.nodup_cons.mp nd).2 (by simpa using h1) (by simpa using h2) hk
def p5(N:List Str)(vs:List V):St:=vs.map some++aM (N.length - vs.length) none
noncomputable def Au(CX:AZ)(P:bQ)(w:bZ)(K:aU)(mg:Str->Option aC)(base:Heap)(N:List Str)(qual:Str)(scope:eI)(f:Addr)(cd:aC)(A:cG)(outer:List Env)(s:aI)(H:Hp)(E:XK):Cx where
 prog:=P
 w:=w
 K:=K
 mg:=mg
 base:=base
 A:=A.deeper (oD qual scope s.heap.objs.size f cd)
 N:=N
 s₀:=s
 H₀:=H
 env:=oD qual scope s.heap.objs.size f cd
 outer:=outer
 stack:=oD qual scope s.heap.objs.size f cd::outer
 ex:=[]
 calm:=true
 fn:=λx=>decide (x∉oo)
 pn:=[]
 xe:=λe s'=>bA (bH P w) (A.deeper (oD qual scope s.heap.objs.size f cd)) (leaving (oD qual scope s.heap.objs.size f cd) e) (λ_ s''=>CX outer H s E e s'') (λe' s''=>CX outer H s E e' s'') s'
def Jn{sc:eI}(h:sc.names.lookup x=some .cell):∃c,(kA n sc.names []).lookup x=some c:=by
 have q:=PySem.W.cellsFrom_some sc.names n [] (.inl h);exact Option.isSome_iff_exists.mp q
def Sv{CX:AZ}{P:bQ}{w:bZ}{K:aU}{mg:Str->Option aC}{base:Heap}{N ps:List Str}{qual:Str}{scope:eI}{f:Addr}{cd:aC}{A:cG}{outer:List Env}{s s1:aI}{H:Hp}{E:XK}{us:List aC}{vs:List V}
  (S:FnScope N ps scope)(hd:A.handled=none)(e0:Env0 P w K mg base A outer s H)(hl:vs.length=ps.length)(r:Vals vs us)
  (x:InCallC s s.heap.objs.size (bindL (oD qual scope s.heap.objs.size f cd).kindOf (ps.zip us) λ_=>none) (kA (s.heap.objs.size+1) scope.names []) (bindC (oD qual scope s.heap.objs.size f cd).kindOf (ps.zip us) λ_=>none) s1):
  Inv (Au CX P w K mg base N qual scope f cd A outer s H E) [] (p5 N vs) H s1:=by
 have hpl:ps.length<=N.length:=by have:=congrArg gS S.pre;rw[dS]at this;lia
 obtain⟨h1,tk,rfl,hk⟩:=x.done;have noA:∀b:Addr,b∉(Au CX P w K mg base N qual scope f cd A outer s H E).ex:=λb z=>absurd (show b∈([]:List Addr)from z) (by simp);refine⟨⟨e0.mod,S.kind,rfl,rfl,aH _,λy z c h1 h2=>?_,λy hy=>?_,λy c _ h=>?_,λ_=>hd,Around.frames_deeper e0.frames,.inr ⟨rfl,rfl⟩,λb z=>absurd z (noA b),e0.bs,e0.bsz,λb _ _=>noA b,λb z=>absurd z (noA b),e0.funs,e0.frf⟩,
  rfl,e0.bare,Un.kept hk,⟨_,x.toInCall.ns,λi y v h1 h2 h3=>?_⟩,λy c h=>⟨_,x.cell y c h⟩,e0.hok.fresh (aH _),λy c h=>?_,λp hp=>absurd (show p∈([]:List (Addr×Obj))from hp) (by simp),e0.hok.kept hk,?_⟩
 ·exact name_of_addr x.apart (dW h1) (dW h2)
 ·have hy:scope.names.lookup y=some .cell\/scope.names.lookup y=some .free:=hy;rcases hy with hy|hy
  ·exact Jn hy
  ·exact absurd rfl (S.nofree _ (dW hy))
 ·exact oC (x.above y c (dW h))
 ·have hi:i<vs.length:=by
   unfold p5 at h2
   by_cases hi:i<vs.length
   ·exact hi
   ·rw[cJ (by simpa using hi)]at h2;rw[List.getElem?_replicate]at h2;split at h2<;>cases h2
  have ha:vs[i]?=some v:=by
   unfold p5 at h2;rw[cP (by simpa using hi),bM]at h2;cases e:vs[i]? with
   |none=>rw[e]at h2;cases h2
   |some a=>rw[e]at h2;cases h2;rfl
  obtain⟨u,hu,rv⟩:=r.get ha;have hp:ps[i]?=some y:=by
   rw[<-S.pre,List.getElem?_take_of_lt (by lia)];exact h1
  have ndP:ps.Nodup:=by rw[<-S.pre];exact S.nd.sublist (List.take_sublist _ _)
  refine⟨u,rv,?_⟩;rcases S.par y (bF hp)with k|k
  ·exact .inl ⟨k,E8 ndP hp hu k⟩
  ·obtain⟨c,e⟩:=Jn (n:=s.heap.objs.size+1) k;refine .inr ⟨.inl k,c,e,?_⟩;have q:=x.cell y c e;rw[E6 ndP hp hu (by show scope.names.lookup y≠_;rw[k];decide)]at q;exact q
 ·exact .inl (e0.hok.fresh (oC (x.above y c (dW h))))
 ·unfold p5;show _=N.length;rw[aZ,aO,dE]
  lia
def PD{CX:AZ}{P:bQ}{w:bZ}{K:aU}{mg:Str->Option aC}{base:Heap}{k:Nat}{f:Addr}{name qual:Str}{params:lC}{body:List Stmt}{scope:eI}{dV kV doc pm cdv ct oc:aC}{an od:Option Addr}
  {osl:Array (Option aC)} {N ps:List Str} {sp:Sp} (lk:K.lookup f=some ⟨oc,od,.func (eD name qual params body scope dV kV doc pm an cdv ct),osl⟩) (hcd:gG K cdv qual=true) (S:FnScope N ps scope)
  (len:∀vs H Q E,sp vs H Q E->vs.length=ps.length)
  (hbody:∀(A:cG)(outer:List Env)(s:aI)(H:Hp)(vs:List V)(Q:VK)(E:XK),Room k (A.deeper (oD qual scope s.heap.objs.size f cdv))->sp vs H Q E->
   ∃t,PSs (Au CX P w K mg base N qual scope f cdv A outer s H E) body t/\t {nx:=λ_ H'=>Q .non H',rt:=Q} (p5 N vs) H):
  FnOk P w K mg base CX (k+1) f (eD name qual params body scope dV kV doc pm an cdv ct) ps sp:=by
 refine⟨len,λA outer s H args us vs Q E hr e0 hb r hsp=>?_⟩;have hl:=len _ _ _ _ hsp;have KX:K.In s.heap:=e0.mod.kin.keeps λb o e=>(e0.bs b o e).1;have lim:s.heap.NoLimit:=e0.mod.nolimit.keeps λb o e=>(e0.bs b o e).1;have hkind:∀y∈ps.zip us,scope.names.lookup y.1=some .local\/(scope.names.lookup y.1=some .cell/\((kA (s.heap.objs.size+1) scope.names []).lookup y.1).isSome=true):=λ⟨n,v⟩ hy=>by
  rcases S.par n (oP hy).1 with q|q
  ·exact .inl q
  ·exact .inr ⟨q,PySem.W.cellsFrom_some _ _ _ (.inl q)⟩
 refine codeAny_call_function hr.depth (KX _ _ lk) rfl S.co S.gen rfl (PySem.W.codeRec_of KX hcd) (hb _ _ _ _ ?_);refine wpAny_newFunctionEnv_cells S.kind hkind λenv he s1 x=>?_;subst he;refine⟨lim.keeps x.toInCall.keep,codeAny_func ?_⟩;obtain⟨t,ht,hq⟩:=hbody A outer s H vs Q E (hr.deeper _) hsp;have I:Inv (Au CX P w K mg base N qual scope f cdv A outer s H E) [] (p5 N vs) H s1:=Sv S hr.hd e0 hl r x;refine bU (ht [] s1 (p5 N vs) H _ I hq) (λfl s' hs=>?_) λe s' hs=>hs;have fin:∀{σ':St}{H':Hp}{v:V}{u:aC},Inv (Au CX P w K mg base N qual scope f cdv A outer s H E) [] σ' H' s'->RelV v u->Q v H'->CE outer P w H s Q u s':=
  λ{σ' H' v u} J rv q=>⟨v,H',J.os,J.bare,J.base,J.hok,rv,q⟩
 cases fl with
 |ret u=>
  obtain⟨v,σ',H',J,rv,q⟩:=hs;exact fin J rv q
 |next=>
  obtain⟨σ',H',J,q⟩:=hs;exact fin (v:=V.non) (u:=cE) J rfl q
 |brk=>
  obtain⟨_,_,_,q⟩:=hs;exact eR q
 |cont=>
  obtain⟨_,_,_,q⟩:=hs;exact eR q
end L2
namespace L2
open PySem PySem.Spec PyProof.Rows
section
variable{X:Cx}{x:Str}{p pos:Pos}{e:Expr}{es:List Expr}{t:TA}{id T:String}{r:List V->Hp->VK->Prop}
def UX(r:List V->Hp->VK->Prop)(t:TA):TE:=λZ H Q=>t Z H λvs H1=>r vs H1 Q
def nu(hc:CallR X (.builtin id) r)(hg:Gl X x)(hm:X.mg x=none)(hv:gO x=some (.builtin id))(ha:PA X (e::es) t)(hn:x≠"__name__":=by decide)(hdb:(x==("__debug__":Str))=false:=by decide)
  (he:bE (e::es) X.env=(false,eval e X.env)::bE es X.env:=by rfl)(hpl:(eZ pos (bE es X.env)).any (·.1)=false:=by rfl):PE X (.Call (.Name x p) (e::es) [] pos) (UX r t):=by
 intro pins s Z H Q I h;refine eS (vw I hg hm hv ?_ hn hdb);exact PyProof.Rows.callWith_builtin1 (i7 (ha pos pins s Z H _ I h) λus s1 ⟨vs,H1,I1,r1,q1⟩=>hc pins s1 Z H1 vs us Q I1 r1 q1) he hpl
def mw(hc:CallR X (.type T) r)(hg:Gl X x)(hm:X.mg x=none)(hv:gO x=some (.type T))(ha:PA X (e::es) t)(hn:x≠"__name__":=by decide)(hdb:(x==("__debug__":Str))=false:=by decide)
  (he:bE (e::es) X.env=(false,eval e X.env)::bE es X.env:=by rfl)(hpl:(eZ pos (bE es X.env)).any (·.1)=false:=by rfl):PE X (.Call (.Name x p) (e::es) [] pos) (UX r t):=by
 intro pins s Z H Q I h;refine eS (vw I hg hm hv ?_ hn hdb);exact iN (i7 (ha pos pins s Z H _ I h) λus s1 ⟨vs,H1,I1,r1,q1⟩=>hc pins s1 Z H1 vs us Q I1 r1 q1) he hpl
end
end L2
namespace HT
open PySem PyProof.Rows
section
variable{prog:bQ}{w:bZ}{A:cG}{E:aC->aI->Prop}{s:aI}
def AK{vs ws:List aC}(ht:IsTup s.heap t vs.toArray)(hb:IsTup s.heap b ws.toArray)(hv:vs≠[])
  (h1:ws=[]->Q (.ref t) s)(h2:ws≠[]->Q (.ref s.heap.objs.size) {s with heap:=s.heap.push {cls:=.type "tuple",data:=.seq (vs++ws).toArray}})
  (hsz:vs.length+ws.length<=aQ):bA (bH prog w) A (gR .Add (.ref t) (.ref b)) Q E s:=by
 obtain⟨⟨cls,dd,data,sl⟩,ho,hc,n,hd⟩:=id ht;obtain⟨⟨cls2,dd2,data2,sl2⟩,ho2,hc2,n2,hd2⟩:=id hb;simp only at hc hd hc2 hd2;subst hc hd hc2 hd2;have e:vs.toArray++ws.toArray=(vs++ws).toArray:=by simp
 by_cases hw:ws=[]
 ·exact oE ⟨_,ho,rfl⟩ ⟨_,ho2,rfl⟩ nR seq_tuple_add kJ kB (jJ _ _)
   (tuple_addW1 t b vs.toArray ws.toArray n n2 dd dd2 sl sl2 (by simpa using hv) (by simp[hw])) ⟨ho,ho2,h1 hw⟩
 ·refine oE ⟨_,ho,rfl⟩ ⟨_,ho2,rfl⟩ nR seq_tuple_add kJ kB (jJ _ _)
   (tuple_addW2 t b vs.toArray ws.toArray n n2 dd dd2 sl sl2 (by simpa using hv) (by simpa using hw) (by rw[bC,bC];exact hsz)) ⟨ho,ho2,?_⟩
  rw[e];exact h2 hw
def jg(n d:Nat):Option Int->Nat
 |none=>d
 |some v=>if v<0 then(v+(n:Int)).toNat else min v.toNat n
def Lu(n d:Nat):jg n d none=d:=rfl
def Q1(n d k:Nat):jg n d (some (k:Int))=min k n:=by
 show(if(k:Int)<0 then((k:Int)+(n:Int)).toNat else min (k:Int).toNat n)=min k n;rw[aJ (by lia),iP]
def MC(n d:Nat)(hd:d<=n)(o:Option Int):jg n d o<=n:=by
 cases o with
 |none=>exact hd
 |some v=>
  show(if v<0 then(v+(n:Int)).toNat else min v.toNat n)<=n
  by_cases hv:v<0
  ·rw[aG hv];lia
  ·rw[aJ hv];exact Nat.min_le_right _ _
def Pq(v:Int)(n d:Nat):(if v<0 then max (v+(n:Int)) 0 else min v (n:Int))=((jg n d (some v):Nat):Int):=by
 show(if v<0 then max (v+(n:Int)) 0 else min v (n:Int))=(((if v<0 then(v+(n:Int)).toNat else min v.toNat n):Nat):Int)
 by_cases hv:v<0
 ·simp only[aG hv];lia
 ·simp only[aJ hv];lia
def Mt(lo hi:Option Int)(n:Nat):jG lo hi 1 (n:Int)=(((jg n 0 lo:Nat):Int),((jg n n hi:Nat):Int)):=by
 have h1:¬((1:Int)<0):=by lia
 unfold jG;simp only[h1,if_false];refine Prod.ext ?_ ?_
 ·cases lo with
  |none=>rfl
  |some v=>exact Pq v n 0
 ·cases hi with
  |none=>rfl
  |some v=>exact Pq v n n
def N9(i j:Nat):gJ (i:Int) (j:Int) 1=j - i:=by
 unfold gJ;have h1:(1:Int)>0:=by lia
 simp only[h1,if_true,Int.ediv_one];split<;>lia
def Dv(p:oF v o)(h:Q o s):bA (bH prog w) A (Builtin.Slice.slicePartIndex v) Q E s:=by
 cases p with
 |none=>exact slicePart_none h
 |int i t=>exact slicePart_int h
def pz{sl:Addr}{vl vu:aC}{lo hi:Option Int}{n:Nat}{Q:Int×Int×Nat->aI->Prop}(hs:s.heap.IsSliceOf sl vl vu .none)(pl:oF vl lo)(pu:oF vu hi)
  (h:Q (((jg n 0 lo:Nat):Int),1,jg n n hi - jg n 0 lo) s):bA (bH prog w) A (Builtin.Slice.sliceApplied (.ref sl) (pure (n:Int))) Q E s:=by
 obtain⟨os,hos,hcs,hds⟩:=id hs;unfold Builtin.Slice.sliceApplied Builtin.Slice.sliceFields;refine aA (aA (iW hos hds (x:=vl) rfl (aA (iW hos hds (x:=vu) rfl (aA (iW hos hds (x:=.none) rfl (aB ?_)))))));refine aA (slicePart_none ?_);show bA _ _ (if((1:Int)==0)=true then _ else _) _ _ s;rw[aJ (by decide)];refine aA (Dv pl (aA (Dv pu (aA (aB ?_)))));show bA _ _ (match jG lo hi 1 (n:Int)with|(lo,hi)=>pure (lo,(1:Int),gJ lo hi 1)) _ _ s;rw[Mt lo hi n];show bA _ _ (pure (((jg n 0 lo:Nat):Int),(1:Int),gJ ((jg n 0 lo:Nat):Int) ((jg n n hi:Nat):Int) 1)) _ _ s;rw[N9];exact aB h
def Xz(xs:Array aC)(i k:Nat):((aW k).filterMap λ(m:Nat)=>xs[((i:Int)+(m:Int) * 1).toNat]?).toArray=((xs.toList.drop i).take k).toArray:=by
 have e:(λ(m:Nat)=>xs[((i:Int)+(m:Int) * 1).toNat]?)=λm=>xs[i+m]?:=by
  funext m
  have:((i:Int)+(m:Int) * 1).toNat=i+m:=by lia
  rw[this]
 rw[e];have:=pick_run xs i k;rw[List.filterMap_map]at this;have e2:((λx=>xs[x]?) ∘ λx=>i+x)=λm=>xs[i+m]?:=rfl;rw[e2]at this;rw[this]
def xj{t sl:Addr}{items:Array aC}{vl vu:aC}{lo hi:Option Int}{Q:aC->aI->Prop}(ht:IsTup s.heap t items)(hs:s.heap.IsSliceOf sl vl vu .none)(pl:oF vl lo)(pu:oF vu hi)
  (hw:¬(jg items.size 0 lo=0/\jg items.size items.size hi=items.size))
  (h:Q (.ref s.heap.objs.size) {s with heap:=s.heap.push {cls:=.type "tuple",data:=.seq ((items.toList.drop (jg items.size 0 lo)).take (jg items.size items.size hi - jg items.size 0 lo)).toArray}})
  (hsz:items.size<=aQ):bA (bH prog w) A (oG (.ref t) (.ref sl)) Q E s:=by
 have htake:sizeOk (.seq ((items.toList.drop (jg items.size 0 lo)).take (jg items.size items.size hi - jg items.size 0 lo)).toArray):=by
  show((items.toList.drop (jg items.size 0 lo)).take (jg items.size items.size hi - jg items.size 0 lo)).toArray.size<=aQ;rw[bC,dS,dH,aL]
  lia
 have hj:jg items.size items.size hi<=items.size:=MC _ _ (aH _) hi;obtain⟨os,hos,hcs,hds⟩:=id hs;have hTs:s.TypeIs (.ref sl) "slice":=⟨os,hos,hcs⟩;unfold oG
 try with_reducible refine cM ?_
 first|refine aA (aB ?_)|skip
 refine aA (wpAny_sequenceKey ht.typeIs (by decide) ?_);refine aA (eV (name:=fX "__getitem__") ht.typeIs fJ
  (cU fJ ht.typeIs entry_tuple_getitem ?_ (args_tuple_getitem _ _)))
 show bA _ _ (iT (.ref t)>>=_) _ _ s;refine aA (tupleItemsOf_ ht ?_);refine aA (jB hTs ?_);rw[aG (by decide)];refine aA (pz hs pl pu ?_);have hno:¬((((jg items.size 0 lo:Nat):Int)==0 && (1:Int)==1 && (jg items.size items.size hi - jg items.size 0 lo)==items.size)=true):=by
  intro q;rw[aF,aF]at q;have q1:((jg items.size 0 lo:Nat):Int)=0:=eq_of_beq q.1.1;have q2:jg items.size items.size hi - jg items.size 0 lo=items.size:=eq_of_beq q.2;exact hw ⟨by lia,by lia⟩
 show bA _ _ (if(((jg items.size 0 lo:Nat):Int)==0 && (1:Int)==1 && (jg items.size items.size hi - jg items.size 0 lo)==items.size)=true then _ else _) _ _ s;rw[aJ hno,Xz]
 first
  |exact aA (m:=eN _) (cL (aB ⟨_,rfl,aB h⟩) htake)
  |exact aA (m:=eN _) (cL (aA (aB (aB ⟨_,rfl,aB h⟩))) htake)
  |exact aA (aA (m:=eN _) (cL (aB (aB ⟨_,rfl,aB h⟩)) htake))
  |exact aA (aA (m:=eN _) (cL (aB ⟨_,rfl,aB h⟩) htake))
end
end HT
namespace L2
open PySem PySem.Spec PyProof.Rows
abbrev TO:=St->Hp->(Option Int->Hp->Prop)->Prop
def PO(X:Cx)(e:Option Expr)(t:TO):Prop:=
 ∀(pins:List (Addr×Obj))(s:aI)(Z:St)(H:Hp)(Q:Option Int->Hp->Prop),Inv X pins Z H s->t Z H Q->
  bA (bH X.prog X.w) X.A (evalPart e X.env) (λu s'=>∃o H',Inv X pins Z H' s'/\oF u o/\Q o H') X.xe s
def FE:TO:=λ_ H Q=>Q none H
def SO(t:TE):TO:=λZ H Q=>t Z H λx H1=>∃i,x=.int i/\Q (some i) H1
section
variable{X:Cx}{e:Expr}{te:TE}{lo hi:Option Expr}{tl th:TO}{pos p2:Pos}
def DF:PO X none FE:=by
 intro pins s Z H Q I h;rw[evalPart_none];exact aB ⟨none,H,I,.none,h⟩
def DE(h:PE X e te):PO X (some e) (SO te):=by
 intro pins s Z H Q I hw;rw[evalPart_some];refine i7 (h pins s Z H _ I hw) λu s1 ⟨x,H1,I1,r1,q1⟩=>?_;obtain⟨i,rfl,q⟩:=q1;obtain⟨t,rfl⟩:=r1;exact⟨some i,H1,I1,.int i t,q⟩
def SlR(X:Cx)(r:V->Option Int->Option Int->Hp->VK->Prop):Prop:=
 ∀(pins:List (Addr×Obj))(s:aI)(Z:St)(H:Hp)(x:V)(v vl vu:aC)(lo hi:Option Int)(sl:Addr)(Q:VK),Inv X pins Z H s->RelV x v->s.heap.IsSliceOf sl vl vu .none->oF vl lo->oF vu hi->r x lo hi H Q->
  ∃T id,typeLookup (.type T) "__getitem__"=pure (some (.builtin id))/\s.TypeIs v T/\bA (bH X.prog X.w) X.A (oG v (.ref sl)) (EP X pins Z Q) X.xe s
def SlR.or(h:SlR X r)(h':SlR X r'):SlR X (λx lo hi H Q=>r x lo hi H Q\/r' x lo hi H Q):=by
 intro pins s Z H x v vl vu lo hi sl Q I rx hs pl pu q;rcases q with q|q
 ·exact h pins s Z H x v vl vu lo hi sl Q I rx hs pl pu q
 ·exact h' pins s Z H x v vl vu lo hi sl Q I rx hs pl pu q
def ZW(r:V->Option Int->Option Int->Hp->VK->Prop)(te:TE)(tl th:TO):TE:=λZ H Q=>te Z H λx H1=>tl Z H1 λl H2=>th Z H2 λu H3=>r x l u H3 Q
def Xw(hr:SlR X r)(he:PE X e te)(hl:PO X lo tl)(hu:PO X hi th):PE X (.Subscript e (.Slice lo hi none p2) pos) (ZW r te tl th):=by
 intro pins s Z H Q I h;refine Subscript_ (i7 (he pins s Z H _ I h) λv s1 ⟨x,H1,I1,r1,q1⟩=>?_);refine wpAny_Slice (i7 (hl pins s1 Z H1 _ I1 q1) λvl s2 ⟨l,H2,I2,pl,q2⟩=>i7 (hu pins s2 Z H2 _ I2 q2) λvu s3 ⟨u,H3,I3,pu,q3⟩=>?_);rw[evalPart_none];refine aB ?_;have I4:Inv X pins Z H3 {s3 with heap:=s3.heap.push {cls:=.type "slice",data:=.fields #[vl,vu,.none]}}:=I3.kept (t':=s3.toks) λb ob q=>aD _ q;obtain⟨T,id,hT,ht,hg⟩:=hr pins {s3 with heap:=s3.heap.push {cls:=.type "slice",data:=.fields #[vl,vu,.none]}} Z H3 x v vl vu l u s3.heap.objs.size Q I4 r1 (Heap.IsSliceOf.new ..) pl pu q3;show bA (bH X.prog X.w) X.A (subscriptTail e (.Slice lo hi none p2) v (.ref s3.heap.objs.size)) (EP X pins Z Q) X.xe {s3 with heap:=s3.heap.push {cls:=.type "slice",data:=.fields #[vl,vu,.none]}};exact tail_any (ops:=[.ref s3.heap.objs.size,v]) ht hT hg (by with_unfolding_all rfl)
def As(xs:List V)(lo hi:Option Int):List V:=(xs.drop (HT.jg xs.length 0 lo)).take (HT.jg xs.length xs.length hi - HT.jg xs.length 0 lo)
def z9(xs:List V)(lo hi:Option Int):(As xs lo hi).length<=xs.length:=by
 unfold As;rw[dS,dH]
 lia
def XX(K:aU):V->Option Int->Option Int->Hp->VK->Prop:=λx lo hi H Q=>∃a xs,x=.ref a/\SqT K H a xs/\
 ¬(HT.jg xs.length 0 lo=0/\HT.jg xs.length xs.length hi=xs.length)/\∀p,H p=none->Q (.ref p) (upd H p (.tup (As xs lo hi)))
def NU:SlR X (XX X.K):=by
 intro pins s Z H x v vl vu lo hi sl Q I rx hs pl pu h;obtain⟨a,xs,rfl,hx,hw,q⟩:=h;cases rx;obtain⟨its,r,ht,hz⟩:=I.tuple hx;have hlen:its.toArray.size=xs.length:=by rw[bC];exact r.length.symm
 refine⟨"tuple",_,PyProof.Rows.slot_tuple_getitem.lookup,ht.typeIs,?_⟩;refine HT.xj ht hs pl pu (by rw[hlen];exact hw) ?_ (by rw[hlen];exact hz);rw[hlen];refine⟨.ref s.heap.objs.size,_,I.laid (t':=s.toks) (o:=.tup (As xs lo hi)) (λb ob q=>aD _ q) (aH _) ?_,rfl,q _ (I.hok.fresh (aH _))⟩;exact⟨cB (z9 xs lo hi) hz,_,(r.drop (HT.jg xs.length 0 lo)).take (HT.jg xs.length xs.length hi - HT.jg xs.length 0 lo),IsTup.new _ _⟩
def RQ(K:aU):R2:=λx y H Q=>∃a b xs ys,x=.ref a/\y=.ref b/\SqT K H a xs/\SqT K H b ys/\xs≠[]/\xs.length+ys.length<=aQ/\
 (ys=[]->Q (.ref a) H)/\(ys≠[]->∀p,H p=none->Q (.ref p) (upd H p (.tup (xs++ys))))
def Vals.nil_iff(r:Vals xs us):us=[]↔xs=[]:=by
 cases r with
 |nil=>simp
 |cons _ _=>simp
def DV:OpR X (gR .Add) (RQ X.K):=by
 intro pins s Z H x y v u Q I rx ry h;obtain⟨a,b,xs,ys,rfl,rfl,ha,hb,hx,hz,q1,q2⟩:=h;cases rx;cases ry;obtain⟨its,r1,p1,_⟩:=I.tuple ha;obtain⟨its2,r2,p2,_⟩:=I.tuple hb;refine HT.AK p1 p2 (λz=>hx (r1.nil_iff.mp z)) (λz=>⟨.ref a,H,I,rfl,q1 (r2.nil_iff.mp z)⟩) (λz=>?_) (by rw[<-r1.length,<-r2.length];exact hz);refine⟨.ref s.heap.objs.size,_,I.laid (t':=s.toks) (o:=.tup (xs++ys)) (λb ob q=>aD _ q) (aH _) ?_,rfl,q2 (λw=>z (r2.nil_iff.mpr w)) _ (I.hok.fresh (aH _))⟩;exact⟨by rw[aZ];exact hz,_,r1.append r2,IsTup.new _ _⟩
end
end L2
namespace L2
open PySem PySem.Spec PyProof.Rows
def JN(n:Nat)(i:Int):Option Nat:=if 0<=i then(if i<n then some i.toNat else none)else if -(n:Int)<=i then some (i+n).toNat else none
def atI(xs:List α)(i:Int):Option α:=(JN xs.length i).bind λj=>xs[j]?
def BI(h:JN n i=some j):seqIndex? i n=some j/\j<n/\-(n:Int)<=i/\i<n:=by
 unfold JN at h
 by_cases h0:0<=i
 ·rw[aG h0]at h
  by_cases h1:i<n
  ·rw[aG h1]at h;have e:i.toNat=j:=bS h;exact⟨by rw[seqIndex_of h0 h1,e],by lia,by lia,h1⟩
  ·rw[aJ h1]at h;cases h
 ·rw[aJ h0]at h
  by_cases h1:-(n:Int)<=i
  ·rw[aG h1]at h;have e:(i+n).toNat=j:=bS h;exact⟨by rw[seqIndex_neg (by lia) h1,e],by lia,h1,by lia⟩
  ·rw[aJ h1]at h;cases h
def Gk{xs:List α}(h:atI xs i=some v):∃j,seqIndex? i xs.length=some j/\xs[j]?=some v/\j<xs.length/\-(xs.length:Int)<=i/\i<xs.length:=by
 unfold atI at h;cases e:JN xs.length i with
 |none=>rw[e]at h;cases h
 |some j=>
  rw[e]at h;obtain⟨h1,h2,h3,h4⟩:=BI e;exact⟨j,h1,h,h2,h3,h4⟩
def A2{α:Type}{xs:List α}{j:Nat}{v:α}(h:xs[j]?=some v):atI xs (j:Int)=some v:=by
 have hj:j<xs.length:=(List.getElem?_eq_some_iff.mp h).1;have e:JN xs.length (j:Int)=some j:=by
  unfold JN;rw[aG (by lia),aG (by lia)];simp
 unfold atI;rw[e];exact h
def Gh(b:Expr):Prop:=∀o i,subscripted b false o i=operate [o,i] (oG o i)
def IxR(X:Cx)(r:R2):Prop:=
 ∀(value slice:Expr)(pins:List (Addr×Obj))(s:aI)(Z:St)(H:Hp)(x y:V)(v u:aC)(Q:VK),Inv X pins Z H s->RelV x v->RelV y u->r x y H Q->
  subscripted slice false v u=operate [v,u] (oG v u)->bA (bH X.prog X.w) X.A (subscriptTail value slice v u) (EP X pins Z Q) X.xe s
def YW(X:Cx)(id:String)(r:V->List V->Hp->VK->Prop):Prop:=
 ∀(pins:List (Addr×Obj))(s:aI)(Z:St)(H:Hp)(x:V)(xs:List V)(v:aC)(us:List aC)(Q:VK),Inv X pins Z H s->RelV x v->Vals xs us->r x xs H Q->
  bA (bH X.prog X.w) X.A (call (.builtin id) (v::us)) (EP X pins Z Q) X.xe s
section
variable{X:Cx}{a b:Expr}{ta tb:TE}{pos:Pos}
def IxR.or(h:IxR X r)(h':IxR X r'):IxR X (λx y H Q=>r x y H Q\/r' x y H Q):=by
 intro value slice pins s Z H x y v u Q I rx ry q hs;rcases q with q|q
 ·exact h value slice pins s Z H x y v u Q I rx ry q hs
 ·exact h' value slice pins s Z H x y v u Q I rx ry q hs
def QD{r:R2}(hr:IxR X r)(ha:PE X a ta)(hb:PE X b tb)(hs:Gh b):PE X (.Subscript a b pos) (SQ r ta tb):=by
 intro pins s Z H Q I h;exact Subscript_ (IT ha hb I h λv u s2 x y H2 I2 rx ry q=>hr a b pins s2 Z H2 x y v u Q I2 rx ry q (hs _ _))
def RN(K:aU):R2:=λx y H Q=>∃p xs i v,x=.ref p/\y=.int i/\SqL K H p xs/\atI xs i=some v/\Q v H
def RL(K:aU):R2:=λx y H Q=>∃p xs i v,x=.ref p/\y=.int i/\SqT K H p xs/\atI xs i=some v/\Q v H
def RM:R2:=λx y H Q=>∃z i c,x=.str z/\y=.int i/\z.length<=aQ/\atI z.cps.toList i=some c/\Q (.str ⟨#[c]⟩) H
def BG:IxR X (RN X.K):=by
 intro value slice pins s Z H x y v u Q I rx ry h hs;obtain⟨p,xs,i,z,rfl,rfl,hq,he,q⟩:=h;cases rx;obtain⟨t,rfl⟩:=ry;obtain⟨its,r,pl,hz⟩:=I.list hq;obtain⟨j,h1,h2,h3,h4,h5⟩:=Gk he;obtain⟨w,ew,rw'⟩:=r.get h2;have hl:=r.length;have hn:=C4;have fin:EP X pins Z Q w s:=⟨z,H,I,rw',q⟩
 by_cases h0:0<=i
 ·have hj:i.toNat=j:=by
   rw[seqIndex_of h0 h5]at h1;exact bS h1
  exact item_listR pl.isList h0 (by lia) (by rw[hj];simpa using ew) fin hs
 ·have hj:(i+(its.toArray.size:Int)).toNat=j:=by
   rw[seqIndex_neg (by lia) h4]at h1;rw[bC,<-hl];exact bS h1
  exact subscriptTail_builtinR (x:=w) pl.isList.typeIs slot_list_getitem.lookup
   (wpAny_getItem_list_neg (Q:=λr s'=>r=w/\EP X pins Z Q r s') pl.isList (by lia) (by rw[bC]<;>lia) (by lia) (by rw[hj];simpa using ew) ⟨rfl,fin⟩) hs
def JK:IxR X (RL X.K):=by
 intro value slice pins s Z H x y v u Q I rx ry h hs;obtain⟨p,xs,i,z,rfl,rfl,hq,he,q⟩:=h;cases rx;obtain⟨t,rfl⟩:=ry;obtain⟨its,r,pl,hz⟩:=I.tuple hq;obtain⟨j,h1,h2,h3,h4,h5⟩:=Gk he;obtain⟨w,ew,rw'⟩:=r.get h2;have hl:=r.length;have hn:=C4;have fin:EP X pins Z Q w s:=⟨z,H,I,rw',q⟩;exact subscriptTail_builtinR (x:=w) pl.typeIs slot_tuple_getitem.lookup
  (getItem_tuple (j:=j) (Q:=λr s'=>r=w/\EP X pins Z Q r s') pl (by lia) (by lia) (by rw[bC,<-hl];exact h1) (by simpa using ew) ⟨rfl,fin⟩) hs
def JL:IxR X RM:=by
 intro value slice pins s Z H x y v u Q I rx ry h hs;obtain⟨z,i,c,rfl,rfl,hz,he,q⟩:=h;obtain⟨t,rfl⟩:=rx;obtain⟨t',rfl⟩:=ry;obtain⟨j,h1,h2,h3,h4,h5⟩:=Gk he;have hl:z.cps.toList.length=z.length:=by simp[Str.length]
 rw[hl]at h1 h4 h5;have hn:=C4;exact tail_any (typeIs_str s z t) slot_str_getitem.lookup (getItem_str (c:=c) (by
  have e1:decide (i< -(2 ^ 63:Int))=false:=decide_eq_false (by lia);have e2:decide (i>=2 ^ 63)=false:=decide_eq_false (by lia);rw[e1,e2,Bool.or_false]) (by rw[h1];simpa using h2) ⟨.str ⟨#[c]⟩,H,I.tok _,⟨_,rfl⟩,q⟩) hs
def YS(K:aU):R2:=λx y H Q=>RN K x y H Q\/RL K x y H Q\/RM x y H Q
def JM:IxR X (YS X.K):=BG.or (JK.or JL)
def Ij(lo hi:Option Int)(n:Nat):(kC lo hi none n).1=((HT.jg n 0 lo:Nat):Int)/\(kC lo hi none n).2.1=((HT.jg n n hi:Nat):Int)/\(kC lo hi none n).2.2=1:=by
 refine⟨?_,?_,rfl⟩
 ·cases lo with
  |none=>simp[kC,HT.jg]
  |some i=>
   simp only[kC,HT.jg,Option.getD_none,show(1:Int)>0 by decide,if_true]
   by_cases h:i<0
   ·simp only[h,if_true]<;>lia
   ·simp only[h,if_false]<;>lia
 ·cases hi with
  |none=>simp[kC,HT.jg]
  |some i=>
   simp only[kC,HT.jg,Option.getD_none,show(1:Int)>0 by decide,if_true]
   by_cases h:i<0
   ·simp only[h,if_true]<;>lia
   ·simp only[h,if_false]<;>lia
def Er(its:List aC)(lo hi:Option Int):slicePick its.toArray lo hi none=((its.drop (HT.jg its.length 0 lo)).take (HT.jg its.length its.length hi - HT.jg its.length 0 lo)).toArray:=by
 obtain⟨h1,h2,h3⟩:=Ij lo hi its.toArray.size;unfold slicePick;rw[h1,h2,h3];simp only[sliceRange_one,pick_run,bC]<;>rfl
def XY(K:aU):V->Option Int->Option Int->Hp->VK->Prop:=λx lo hi H Q=>∃a xs,x=.ref a/\SqL K H a xs/\∀p,H p=none->Q (.ref p) (upd H p (.lst (As xs lo hi)))
def FR:SlR X (XY X.K):=by
 intro pins s Z H x v vl vu lo hi sl Q I rx hs pl pu h;obtain⟨a,xs,rfl,hx,q⟩:=h;cases rx;obtain⟨its,r,ht,hz⟩:=I.list hx;have hlen:=r.length;refine⟨"list",_,slot_list_getitem.lookup,ht.isList.typeIs,?_⟩;refine wpAny_getItem_list_slice ht.isList hs pl pu .none (by simp) ?_ (by rw[bC]<;>lia);rw[Er,<-hlen];refine⟨.ref s.heap.objs.size,_,I.laid (t':=s.toks) (o:=.lst (As xs lo hi)) (λb ob q=>aD _ q) (aH _) ?_,rfl,q _ (I.hok.fresh (aH _))⟩;exact⟨cB (z9 xs lo hi) hz,_,0,(r.drop (HT.jg xs.length 0 lo)).take (HT.jg xs.length xs.length hi - HT.jg xs.length 0 lo),aX _ rfl⟩
def CallR.or(h:CallR X f r)(h':CallR X f r'):CallR X f (λxs H Q=>r xs H Q\/r' xs H Q):=by
 intro pins s Z H xs us Q I rs q;rcases q with q|q
 ·exact h pins s Z H xs us Q I rs q
 ·exact h' pins s Z H xs us Q I rs q
def Gp:CallR X (.type "list") (λxs H Q=>∃p ys,xs=[.ref p]/\(SqL X.K H p ys\/SqT X.K H p ys)/\∀l,H l=none->Q (.ref l) (upd H l (.lst ys))):=by
 intro pins s Z H xs us Q I r h;obtain⟨p,ys,rfl,hq,q⟩:=h;obtain⟨u,rfl,rx⟩:=mh r;cases rx;have fin:∀(its:List aC),Vals ys its->ys.length<=aQ->∀(h':Heap)(c':Nat),(∀b o',s.heap.get? b=some o'->h'.get? b=some o')->
   h'.get? s.heap.objs.size=some {cls:=.type "list",dict:=none,data:=.seq its.toArray c',slots:=#[]}->EP X pins Z Q (.ref s.heap.objs.size) {s with heap:=h'}:=λits r' hz h' c' kp e=>
  ⟨.ref s.heap.objs.size,_,I.laid (t':=s.toks) kp (aH _) (show ObjOk X.prog X.w _ h' _ (.lst ys)from⟨hz,its,c',r',e⟩),rfl,q _ (I.hok.fresh (aH _))⟩
 rcases hq with hq|hq
 ·obtain⟨its,r',pl,hz⟩:=I.list hq;have hlen:=r'.length;obtain⟨o,ho,hc,n,hd⟩:=pl.isList;exact call_list_seq p (.inl rfl) ho hc hd (λh' c' kp e=>fin its r' hz h' c' kp e) (by simp only[bC]<;>lia)
 ·obtain⟨its,r',pl,hz⟩:=I.tuple hq;have hlen:=r'.length;obtain⟨o,ho,hc,n,hd⟩:=pl;exact call_list_seq p (.inr rfl) ho hc hd (λh' c' kp e=>fin its r' hz h' c' kp e) (by simp only[bC]<;>lia)
def Ed:CallR X (.type "tuple") (λxs H Q=>∃p ys,xs=[.ref p]/\((SqL X.K H p ys/\∀l,H l=none->Q (.ref l) (upd H l (.tup ys)))\/(SqT X.K H p ys/\Q (.ref p) H))):=by
 intro pins s Z H xs us Q I r h;obtain⟨p,ys,rfl,h⟩:=h;obtain⟨u,rfl,rx⟩:=mh r;cases rx;rcases h with ⟨hq,q⟩|⟨hq,q⟩
 ·obtain⟨its,r',pl,hz⟩:=I.list hq;have hlen:=r'.length;refine call_tuple_list pl.isList (λh' kp=>?_) (by simp only[bC]<;>lia);have I1:Inv X pins Z H {s with heap:=h'}:=I.kept (t':=s.toks) kp;have I2:Inv X pins Z (upd H h'.objs.size (.tup ys)) {s with heap:=h'.push {cls:=.type "tuple",data:=.seq its.toArray}}:=
   I1.laid (t':=s.toks) (λb o e=>aD _ e) (aH _) (show ObjOk X.prog X.w _ _ _ (.tup ys)from⟨hz,its,r',IsTup.new _ _⟩)
  exact⟨.ref h'.objs.size,_,I2,rfl,q _ (I1.hok.fresh (aH _))⟩
 ·obtain⟨its,r',pl,hz⟩:=I.tuple hq;exact call_tuple_same pl ⟨.ref p,H,I,rfl,q⟩
def XC(K:aU)(T:String)(x:V)(H:Hp):Prop:=match x with
 |.str _=>T="str"
 |.int _=>T="int"
 |.ref p=>(T="list"/\∃xs,SqL K H p xs)\/(T="tuple"/\∃o,K.lookup p=some o/\o.cls=.type "tuple"/\o.dict=none)\/
   (T="dict"/\((∃kvs,H p=some (.dK kvs))\/∃kvs,H p=some (.dT kvs)))\/(T="set"/\∃S n,H p=some (.set S n))
 |_=>False
def Z0(I:Inv X pins Z H s)(r:RelV x v)(ty:XC X.K T x H):
  s.TypeIs v T/\∀a,v=.ref a->∃ob,s.heap.get? a=some ob/\ob.dict=none:=by
 cases x with
 |str z=>
  obtain⟨t,rfl⟩:=r;cases (show T="str" from ty);exact⟨typeIs_str s z t,λ_ e=>nomatch e⟩
 |int i=>
  obtain⟨t,rfl⟩:=r;cases (show T="int" from ty);exact⟨typeIs_int s i t,λ_ e=>nomatch e⟩
 |ref p=>
  cases r;rcases ty with ⟨rfl,xs,hq⟩|⟨rfl,o,hk,hc,hd⟩|⟨rfl,hk⟩|⟨rfl,S,n,hk⟩
  ·obtain⟨its,_,pl,_⟩:=I.list hq;refine⟨pl.isList.typeIs,λa e=>?_⟩;cases e;obtain⟨o,n,e,c,hd,_⟩:=pl;exact⟨o,e,hd⟩
  ·refine⟨⟨o,I.kIn p o hk,hc⟩,λa e=>?_⟩;cases e;exact⟨o,I.kIn _ o hk,hd⟩
  ·have z:∃o,s.heap.get? p=some o/\o.ExactDict:=by
    rcases hk with ⟨kvs,hk⟩|⟨kvs,hk⟩
    ·obtain⟨_,_,_,_,o,_,_,e,ex,_⟩:=I.hok p _ hk;exact⟨o,e,ex⟩
    ·obtain⟨_,_,_,_,o,_,_,e,ex,_⟩:=I.hok p _ hk;exact⟨o,e,ex⟩
   obtain⟨o,e,ex⟩:=z;refine⟨⟨o,e,ex.1⟩,λa e2=>?_⟩;cases e2;exact⟨o,e,ex.2.1⟩
  ·obtain⟨o,_,_,_,e,ex,_⟩:=I.hok p _ hk;refine⟨⟨o,e,ex.1⟩,λa e2=>?_⟩;cases e2;exact⟨o,e,ex.2.1⟩
 |_=>exact eR ty
def XO(K:aU)(T:String)(r:V->List V->Hp->VK->Prop)(to:TE):TE:=λZ H Q=>to Z H λx H1=>XC K T x H1/\r x [] H1 Q
def YB(K:aU)(T:String)(r:V->List V->Hp->VK->Prop)(to:TE)(t:TA):TE:=λZ H Q=>to Z H λx H1=>XC K T x H1/\t Z H1 λxs H2=>r x xs H2 Q
variable{o e:Expr}{es:List Expr}{to:TE}{t:TA}{name:Str}{apos cpos:Pos}{T id:String}{r:V->List V->Hp->VK->Prop}
def LW(pa:PlainAttrs T)(slot:Slot T name id)(hty:typeOf (.builtin id)=pure (.type "method_descriptor"))(hm:YW X id r)(ho:PE X o to)
  (hbase:jK o name X.env (eval o X.env)=eval o X.env:=by rfl)(hline:(apos.endLine==cpos.line)=true:=by rfl):PE X (.Call (.Attribute o name apos) [] [] cpos) (XO X.K T r to):=by
 intro pins s Z H Q I h;refine wpAny_Call_method0_late hbase hline (i7 (ho pins s Z H _ I h) λv s1 ⟨x,H1,I1,r1,ty,q1⟩=>?_);obtain⟨h1,h2⟩:=Z0 I1 r1 ty;exact⟨T,id,pa,slot,hty,h1,h2,kK rfl (PySem.evalArgs_none (hm pins s1 Z H1 x [] v [] Q I1 r1 .nil q1))⟩
def HY(pa:PlainAttrs T)(slot:Slot T name id)(hty:typeOf (.builtin id)=pure (.type "method_descriptor"))(hm:YW X id r)(ho:PE X o to)(ha:PA X (e::es) t)
  (hbase:jK o name X.env (eval o X.env)=eval o X.env:=by rfl)
  (hfew:((eZ cpos (bE (e::es) X.env)).all (λx=> !x.1) && (nS cpos (kE [] X.env)).all (λx=>x.1.isSome)
   && decide ((e::es).length+([]:List iA).length+(if([]:List iA).isEmpty then 0 else 1)<30))=true:=by rfl)
  (hline:(apos.endLine==cpos.line)=true:=by rfl) (hs:bE (e::es) X.env=(false,eval e X.env)::bE es X.env:=by rfl) (hplain:(eZ cpos (bE es X.env)).any (·.1)=false:=by rfl):
  PE X (.Call (.Attribute o name apos) (e::es) [] cpos) (YB X.K T r to t):=by
 intro pins s Z H Q I h;refine wpAny_Call_method_late hbase hfew hline rfl (i7 (ho pins s Z H _ I h) λv s1 ⟨x,H1,I1,r1,ty,q1⟩=>?_);obtain⟨h1,h2⟩:=Z0 I1 r1 ty;refine⟨T,id,pa,slot,hty,h1,h2,?_⟩;have hA:=ha cpos pins s1 Z H1 _ I1 q1;rw[hs]at hA⊢;refine kK (by show(false||(eZ cpos (bE es X.env)).any (·.1))=false;rw[hplain]<;>rfl) (lQ ?_);exact i7 hA λus s2 ⟨vs,H2,I2,r2,q2⟩=>hm pins s2 Z H2 x vs v us Q I2 r1 r2 q2
end
end L2
namespace L2
open PySem PySem.Spec PyProof.Rows
def WW(X:Cx)(id:String)(r:V->List V->Hp->VK->Prop):Prop:=
 ∀(pins:List (Addr×Obj))(s:aI)(Z:St)(H:Hp)(x:V)(xs:List V)(v:aC)(us:List aC)(Q:VK),Inv X pins Z H s->RelV x v->Vals xs us->r x xs H Q->
  bA (bH X.prog X.w) X.A (call (.builtin id) (v::us)) (EP X pins Z Q) X.xe s
def Vals.one:∀{x:V}{us:List aC},Vals [x] us->∃u,us=[u]/\RelV x u
 |_,_,.cons r .nil=>⟨_,rfl,r⟩
def Vals.zero:∀{us:List aC},Vals [] us->us=[]
 |_,.nil=>rfl
theorem Vals.dropLast{xs:List V}{us:List aC}(h:Vals xs us):Vals xs.dropLast us.dropLast:=by
 induction h with
 |nil=>exact .nil
 |cons r t ih=>
  cases t with
  |nil=>exact .nil
  |cons q t'=>exact .cons r ih
theorem Vals.rep(h:Vals xs us):∀k:Nat,Vals (aM k xs).flatten (aM k us).flatten
 |0=>.nil
 |k+1=>by
  rw[fG,fG,fR,fR];exact Vals.append h (Vals.rep h k)
def Nf(l:List α):l.eraseIdx (l.length - 1)=l.dropLast:=by
 induction l with
 |nil=>rfl
 |cons a r ih=>
  cases r with
  |nil=>rfl
  |cons b r=>
   have e:(a::b::r).length - 1=((b::r).length - 1)+1:=by
    have h1:(a::b::r).length=r.length+2:=rfl;have h2:(b::r).length=r.length+1:=rfl
    lia
   rw[e,List.eraseIdx_cons_succ,ih]
   all_goals rfl
theorem Fk(its:List aC):∀(k:Nat)(acc:List aC),
  List.foldl (λx1 x2=>x1++x2) acc.toArray (aM k its.toArray)=(acc++(aM k its).flatten).toArray
 |0,acc=>by simp
 |k+1,acc=>by
  have e:acc.toArray++its.toArray=(acc++its).toArray:=by simp
  have e2:(acc++its)++(aM k its).flatten=acc++(aM (k+1) its).flatten:=by
   rw[fG,fR,dM]
  rw[<-e2,<-Fk its k (acc++its),<-e,fG,fS]
section
variable{X:Cx}{pins:List (Addr×Obj)}{Z:St}{H:Hp}{s:aI}{l b:Addr}{xs ys zs:List V}
def Inv.lset{its its':List aC}{n:Nat}{f:Array aC->Array aC}{t':Nat}(I:Inv X pins Z H s)(hH:H l=some (.lst xs))
  (e:s.heap.get? l=some {cls:=.type "list",data:=.seq its.toArray n})(hf:f its.toArray=its'.toArray)(hv:Vals ys its')(hz:ys.length<=aQ):
  Inv X pins Z (upd H l (.lst ys)) {s with heap:=s.heap.update l (gH f),toks:=t'}:=by
 have q:=PySem.IsL.update e f;rw[hf]at q;refine I.write (x:=l) (e:=l) (by rw[hH];exact trivial) (.inl rfl) (λb' u hb hu=>(eE s.heap (gH f) (fM hb)).trans hu) ⟨_,q⟩ ?_;exact⟨hz,its',_,hv,q⟩
def Inv.lnew(I:Inv X pins Z H s)(hv:Vals ys its)(hz:ys.length<=aQ):
  Inv X pins Z (upd H s.heap.objs.size (.lst ys)) {s with heap:=s.heap.push {cls:=.type "list",data:=.seq its.toArray},toks:=t'}:=
 I.laid (λ_ _ q=>aD _ q) (aH _) ⟨hz,its,0,hv,aX _ rfl⟩
theorem Inv.fresh(I:Inv X pins Z H s):H s.heap.objs.size=none:=I.hok.fresh (aH _)
def Inv.lstM(I:Inv X pins Z H s)(hH:H l=some (.lst xs)):xs.length<=aQ/\∃(its:List aC) (n:Nat),Vals xs its/\xs.length=its.length/\s.heap.get? l=some {cls:=.type "list",data:=.seq its.toArray n}:=by
 obtain⟨z,its,n,r,e⟩:=I.hok l _ hH;exact⟨z,its,n,r,r.length,e⟩
def Lb(h:n<=aQ):fN n=false:=by
 unfold fN;exact decide_eq_false (by lia)
end
section
variable{X:Cx}
def EG:V->List V->Hp->VK->Prop:=λx vs H Q=>∃l xs y,x=.ref l/\vs=[y]/\H l=some (.lst xs)/\xs.length<aQ/\Q .non (upd H l (.lst (xs++[y])))
def Fx:WW X "list.append" EG:=by
 intro pins s Z H x vs v us Q I rx rv h;obtain⟨l,xs,y,rfl,rfl,hH,hz,q⟩:=h;cases rx;obtain⟨u,rfl,ru⟩:=rv.one;obtain⟨z,its,n,r,hl,e⟩:=I.lstM hH;refine oH F.slot_list_append ⟨_,e,rfl⟩ F.entry_list_append (F.args_list_append_2 _ _) (PySem.list_append l its.toArray n u (by rw[bC];lia)) ⟨e,?_⟩;refine⟨.non,_,I.lset (its':=its++[u]) hH e (by simp) (r.append (.cons ru .nil)) ?_,rfl,q⟩;rw[aZ,iJ]
 lia
def WA:V->List V->Hp->VK->Prop:=λx vs H Q=>∃l xs y,x=.ref l/\vs=[]/\H l=some (.lst xs)/\xs[xs.length - 1]?=some y/\Q y (upd H l (.lst xs.dropLast))
def KU:WW X "list.pop" WA:=by
 intro pins s Z H x vs v us Q I rx rv h;obtain⟨l,xs,y,rfl,rfl,hH,hy,q⟩:=h;cases rx;have hus:=rv.zero;subst hus;obtain⟨z,its,n,r,hl,e⟩:=I.lstM hH;obtain⟨u,hu,ru⟩:=r.get hy;have hy':its.toArray[its.toArray.size - 1]?=some u:=by
  show its.toArray[its.length - 1]?=some u;rw[<-bO,<-hl];exact hu
 refine oH F.slot_list_pop ⟨_,e,rfl⟩ F.entry_list_pop (F.args_list_pop_1 _) (MeetsSeq.list_pop_last l its.toArray n u hy' (by rw[bC];lia)) ⟨e,?_⟩;refine⟨y,_,I.lset (its':=its.dropLast) hH e ?_ r.dropLast ?_,ru,q⟩
 ·show its.toArray.eraseIdxIfInBounds (its.toArray.size - 1)=its.dropLast.toArray;rw[bC,List.eraseIdxIfInBounds_toArray,Nf]
 ·rw[List.length_dropLast]
  lia
def XZ:R2:=λx y H Q=>∃l k xs,x=.ref l/\y=.int k/\H l=some (.lst xs)/\-(2 ^ 63)<=k/\k<2 ^ 63/\xs.length * k.toNat<=aQ/\
 ∀p,H p=none->Q (.ref p) (upd H p (.lst (aM k.toNat xs).flatten))
def CM(xs:List α)(k:Nat):(aM k xs).flatten.length=k * xs.length:=by
 induction k with
 |zero=>simp
 |succ k ih=>rw[fG,fR,aZ,ih,Nat.succ_mul,Nat.add_comm]
def KD:OpR X (gR .Mult) XZ:=by
 intro pins s Z H x y v u Q I rx ry h;obtain⟨l,k,xs,rfl,rfl,hH,h1,h2,hz,q⟩:=h;cases rx;obtain⟨t,rfl⟩:=ry;obtain⟨z,its,n,r,hl,e⟩:=I.lstM hH;have hlen:its.toArray.size * k.toNat<=aQ:=by rw[bC,<-hl];exact hz
 have hcap:¬its.toArray.size * k.toNat>(2 ^ 63 - 1) / 8:=by
  have:(aQ:Nat)<=(2 ^ 63 - 1) / 8:=by decide
  lia
 have hfit:¬(!Builtin.List.listFitsIndex k)=true:=by
  rw[fitsIndex_both h1 h2];exact Bool.false_ne_true
 have hlong:¬fN (its.toArray.size * k.toNat)=true:=by
  rw[Lb hlen];exact Bool.false_ne_true
 have hnew:List.foldl (λx1 x2=>x1++x2) #[] (aM (if its.toArray.isEmpty=true then 0 else k.toNat) its.toArray)=(aM k.toNat its).flatten.toArray:=by
  have f0:∀m:Nat,List.foldl (λx1 x2=>x1++x2) #[] (aM m its.toArray)=(aM m its).flatten.toArray:=λm=>by
   have:=Fk its m [];rw[fH]at this;exact this
  rw[f0];cases its with
  |nil=>simp
  |cons a r'=>rw[aJ (by simp)]
 refine wpAny_binaryOp_repeat_ref (T:="list") (U:="int") (by decide) ⟨_,e,rfl⟩ (λs'=>typeIs_int s' k t) noFill_list_mul F.fills_int_mul F.slot_int_rmul repeat_list F.slot_int_index.lookup
  (oH F.slot_int_rmul (typeIs_int s k t) F.entry_int_rmul (F.args_int_rmul_2 _ _) (int___rmul___int_list k t l its.toArray n)
   ⟨e,rfl,⟨_,e,rfl⟩,oH F.slot_list_mul ⟨_,e,rfl⟩ F.entry_list_mul (F.args_list_mul_2 _ _) (AutoListH.list___mul___list_int_3 l its.toArray n k t hfit hcap hlong) ⟨e,?_⟩⟩)
 rw[hnew];exact⟨.ref _,_,I.lnew (t':=s.toks) (r.rep k.toNat) (by rw[CM,oJ];exact hz),rfl,q _ I.fresh⟩
end
end L2
namespace L2
open PySem PySem.Spec PyProof.Rows
section
variable{κ:Type}[DecidableEq κ]
def l9(kvs:List (κ×V))(k:κ):Option V:=(kvs.find? λkv=>decide (kv.1=k)).map (·.2)
noncomputable def Ll(kvs:List (κ×V))(k:κ)(v:V):List (κ×V):=
 if(kvs.any λkv=>decide (kv.1=k))=true then kvs.map (λkv=>if kv.1=k then(kv.1,v)else kv)else kvs++[(k,v)]
def Mm:l9 ([]:List (κ×V)) k=none:=rfl
def ug{k:κ}(e:p.1=k):l9 (p::r) k=some p.2:=by simp[l9,fI,e]
def n8{k:κ}(e:¬p.1=k):l9 (p::r) k=l9 r k:=by simp[l9,fI,e]
theorem Ml(k:κ):∀kvs:List (κ×V),(kvs.any λkv=>decide (kv.1=k))=(l9 kvs k).isSome
 |[]=>rfl
 |p::r=>by
  rw[jL]
  by_cases e:p.1=k
  ·simp only[ug e,decide_eq_true e,Bool.true_or,Option.isSome_some]
  ·rw[n8 e,decide_eq_false e,Bool.false_or];exact Ml k r
def Ky(kvs:List (κ×V))(k:κ)(v:V):(Ll kvs k v).length<=kvs.length+1:=by
 unfold Ll;split
 ·rw[aO];lia
 ·rw[aZ,aE,dC];lia
def RelO.isSome_eq{o:Option V}{u:Option aC}(r:RelO o u):o.isSome=u.isSome:=by
 cases o with
 |none=>cases u with
  |none=>rfl
  |some _=>exact(show False from r).elim
 |some _=>cases u with
  |none=>exact(show False from r).elim
  |some _=>rfl
def KV.val(r:KV kvs vs)(k:κ):RelO (l9 kvs k) (pC vs k):=by
 unfold KV at r;induction r with
 |nil=>exact lD
 |@cons p q ps qs h t ih=>
  obtain⟨h1,h2⟩:=h
  by_cases e:p.1=k
  ·have e':q.1=k:=h1.symm.trans e;have b:pC (q::qs) k=some q.2:=by simp[pC,fI,e']
   rw[ug e,b];exact h2
  ·have e':¬q.1=k:=λz=>e (h1.trans z);have b:pC (q::qs) k=pC qs k:=by simp[pC,fI,e']
   rw[n8 e,b];exact ih
end
def Kn(r:RelV (kV k) u):(cb P w).is k u=true:=by
 cases k with
 |inl i=>obtain⟨t,e⟩:=(show∃t,u=gK i t from r);subst e;exact K4 P w i t
 |inr x=>obtain⟨t,e⟩:=(show∃t,u=oY x t from r);subst e;exact K5 P w x t
theorem Fq:∀{ks:List rn}{us:List aC},Vals (ks.map kV) us->ItemsAre (cb P w) ks us
 |[],_,r=>by rw[kL]at r;cases r;exact .nil
 |k::ks,_,r=>by
  rw[aV]at r;cases r with
  |cons h t=>exact .cons (Kn h) (Fq t)
abbrev KT(H:Hp):List (bg×V)->List (bg×Addr×aC)->Prop:=Paired λp q=>p.1=q.1/\TkAt H p.1 q.2.1/\RelV p.2 q.2.2
def KT.val(r:KT H kvs xs)(k:bg):RelO (l9 kvs k) ((nT xs k).map (·.2)):=by
 induction r with
 |nil=>exact lD
 |@cons p q ps qs h t ih=>
  obtain⟨h1,_,h2⟩:=h
  by_cases e:p.1=k
  ·have e':q.1=k:=h1.symm.trans e;have b:nT (q::qs) k=some q.2:=by simp[nT,fI,e']
   rw[ug e,b];exact h2
  ·have e':¬q.1=k:=λz=>e (h1.trans z);have b:nT (q::qs) k=nT qs k:=by simp[nT,fI,e']
   rw[n8 e,b];exact ih
def KT.repl(r:KT H kvs xs)(k:bg)(ry:RelV y u):
  KT H (kvs.map λkv=>if kv.1=k then(kv.1,y)else kv) (xs.map (putAt k u)):=by
 induction r with
 |nil=>exact .nil
 |@cons p q ps qs h t ih=>
  rw[aV,aV];refine .cons ?_ ih;obtain⟨h1,h2,h3⟩:=h;unfold putAt
  by_cases e:p.1=k
  ·rw[aG e,aG (h1.symm.trans e)];exact⟨h1,h2,ry⟩
  ·rw[aJ e,aJ (λz=>e (h1.trans z))];exact⟨h1,h2,h3⟩
def KT.put(r:KT H kvs xs)(k:bg)(hb:TkAt H k b)(ry:RelV y u):
  KT H (Ll kvs k y) (storedH xs k b u):=by
 have e:(kvs.any λkv=>decide (kv.1=k))=(nT xs k).isSome:=by
  rw[Ml,(r.val k).isSome_eq,nE]
 unfold Ll storedH;rw[e]
 by_cases q:(nT xs k).isSome=true
 ·rw[aG q,aG q];exact r.repl k ry
 ·rw[aJ q,aJ q];exact Paired.snoc r ⟨rfl,hb,ry⟩
def KT.keeps(r:KT H kvs xs)(ht:∀b ys,H b=some (.tup ys)->H' b=some (.tup ys)):KT H' kvs xs:=
 Paired.mapP r λ_ _ z=>⟨z.1,z.2.1.mono ht,z.2.2⟩
section
variable{P:bQ}{w:bZ}{H:Hp}{h:Heap}{a:Addr}
def HR(ok:HOk P w H h)(e:Rd H a u):ObjOk P w H h a u:=e.ok ok
def Jx{kvs:List (rn×V)}(ok:HOk P w H h)(e:Rd H a (.dK kvs)):kvs.length<=aQ/\(a==gF)=false/\∃vs,KV kvs vs/\h.DictOf (cb P w) a vs:=
 show ObjOk P w H h a (.dK kvs)from HR ok e
def BB{ks:List rn}(ok:HOk P w H h)(e:H a=some (.tup (ks.map kV))):hV (cb P w) h ks a:=by
 obtain⟨_,its,r,o,h1,h2,n,h3⟩:=(show ObjOk P w H h a (.tup (ks.map kV))from ok a _ e);exact⟨o,its.toArray,n,h1,h2,h3,by simpa using Fq r⟩
theorem v9(ok:HOk P w H h):∀{ks:bg}{vs:List V}{us:List aC},NkL H ks vs->Vals vs us->NItems P w h ks us
 |[],vs,us,e,r=>by rw[show vs=[]from e]at r;cases r;exact rfl
 |.inl k::ks,vs,us,⟨v,t,e,q,e2⟩,r=>by
  subst e;cases r with
  |cons h1 t1=>exact⟨_,_,rfl,Kn (by rw[<-show v=kV k from q];exact h1),v9 ok e2 t1⟩
 |.inr ys::ks,vs,us,⟨v,t,e,⟨b,e3,q⟩,e2⟩,r=>by
  subst e e3;cases r with
  |cons h1 t1=>exact⟨_,_,rfl,⟨b,h1,BB ok q⟩,v9 ok e2 t1⟩
def y9(ok:HOk P w H h)(e:TkAt H ks a):(au P w).is h ks a:=by
 obtain⟨vs,e,nk⟩:=e;obtain⟨_,its,r,o,h1,h2,n,h3⟩:=(show ObjOk P w H h a (.tup vs)from ok a _ e);exact⟨o,its.toArray,n,h1,h2,h3,by simpa using v9 ok nk r⟩
def Ff{kvs:List (bg×V)}(ok:HOk P w H h)(e:Rd H a (.dT kvs)):kvs.length<=aQ/\(a==gF)=false/\
  ∃xs,KT H kvs xs/\h.DictOfH (au P w) a xs:=by
 obtain⟨z,y,xs,r,o,es,ep,h1,h2,h3,h4,h5⟩:=(show ObjOk P w H h a (.dT kvs)from HR ok e);refine⟨z,y,xs,r,o,es,ep,h1,h2,h3,h4,λx hx=>?_,h5⟩;have all:∀{l:List (bg×V)}{m:List (bg×Addr×aC)},KT H l m->∀x∈m,(au P w).is h x.1 x.2.1:=by
  intro l m q;induction q with
  |nil=>intro x hx;exact nomatch hx
  |@cons p q ps qs hq t ih=>
   intro x hx;rcases List.mem_cons.mp hx with e|hx
   ·subst e;exact y9 ok (by rw[<-hq.1];exact hq.2.1)
   ·exact ih x hx
 exact all r x hx
def PL{kvs:List (bg×V)}(ok:HOk P w H h)(e:H a=some (.dT kvs)):kvs.length<=aQ/\(a==gF)=false/\
  ∃xs,KT H kvs xs/\h.DictOfH (au P w) a xs:=Ff ok (.inl e)
end
def DGet(H:Hp)(a:Addr)(y:V)(r:Option V):Prop:=
 (∃kvs k,Rd H a (.dK kvs)/\y=kV k/\r=l9 kvs k)\/∃kvs k b,Rd H a (.dT kvs)/\y=.ref b/\TkAt H k b/\r=l9 kvs k
theorem DGet.k{k:rn}(e:H a=some (.dK kvs)):DGet H a (kV k) (l9 kvs k):=.inl ⟨kvs,k,.inl e,rfl,rfl⟩
def DGet.t{H:Hp}{a b:Addr}{kvs:List (bg×V)}{k:bg}(e:H a=some (.dT kvs))(eb:TkAt H k b):DGet H a (.ref b) (l9 kvs k):=.inr ⟨kvs,k,b,.inl e,rfl,eb,rfl⟩
section
variable{X:Cx}{pins:List (Addr×Obj)}{Z:St}{H:Hp}{s:aI}{a:Addr}{y v:V}{u r:aC}{o:Option V}{A:cG}{E:aC->aI->Prop}
def Inv.big(I:Inv X pins Z H s):gF<s.heap.objs.size:=by
 have h:cO<s.heap.objs.size:=(I.mod.glob.keeps I.bk).lt;exact Nat.lt_trans (by decide) h
def Sb(hu:A.units+5<eL)(I:Inv X pins Z H s)(g:DGet H a y (some v))(ry:RelV y u)(h:∀w' s',Inv X pins Z H s'->RelV v w'->Q w' s'):
  bA (bH X.prog X.w) A (oG (.ref a) u) Q E s:=by
 rcases g with ⟨kvs,k,e,ey,l⟩|⟨kvs,k,b,e,ey,eb,l⟩
 ·subst ey;obtain⟨z,hd,vs,rel,dd⟩:=Jx I.hok e;obtain⟨w',hw,rw'⟩:=RelO.some_of (v:=v) (o:=pC vs k) (by rw[l];exact rel.val k);exact wpAny_getItem_of (Kn ry) dd.mapOf hw (h w' _ (I.tok _) rw')
 ·subst ey;cases (show u=cQ b from ry);obtain⟨z,hd,xs,rel,dd⟩:=Ff I.hok e;obtain⟨w',hw,rw'⟩:=RelO.some_of (v:=v) (o:=(nT xs k).map (·.2)) (by rw[l];exact rel.val k);obtain⟨p,hp,hp2⟩:=Option.map_eq_some_iff.mp hw;refine wpAny_getItem_heap (ic hu) (y9 I.hok eb) dd hp ?_;rw[hp2];exact h w' _ (I.tok _) rw'
def WR(hu:A.units+5<eL)(I:Inv X pins Z H s)(g:DGet H a y o)(ry:RelV y u)(h:∀s',Inv X pins Z H s'->Q (.bool o.isSome) s'):
  bA (bH X.prog X.w) A (cF .In u (.ref a)) Q E s:=by
 rcases g with ⟨kvs,k,e,ey,l⟩|⟨kvs,k,b,e,ey,eb,l⟩
 ·subst ey;obtain⟨z,hd,vs,rel,dd⟩:=Jx I.hok e;refine wpAny_in_of (Kn ry) hd dd.mapOf ?_;rw[<-(rel.val k).isSome_eq,<-l];exact h _ (I.tok _)
 ·subst ey;cases (show u=cQ b from ry);obtain⟨z,hd,xs,rel,dd⟩:=Ff I.hok e;refine wpAny_in_heap (ic hu) (y9 I.hok eb) hd dd ?_;have q:=(rel.val k).isSome_eq;rw[nE]at q;rw[<-q,<-l];exact h _ (I.tok _)
def AC(hu:A.units+5<eL)(I:Inv X pins Z H s)(g:DGet H a y o)(ry:RelV y u)(h:∀s',Inv X pins Z H s'->Q (.bool (!o.isSome)) s'):
  bA (bH X.prog X.w) A (cF .NotIn u (.ref a)) Q E s:=by
 rcases g with ⟨kvs,k,e,ey,l⟩|⟨kvs,k,b,e,ey,eb,l⟩
 ·subst ey;obtain⟨z,hd,vs,rel,dd⟩:=Jx I.hok e;refine wpAny_notIn_of (Kn ry) hd dd.mapOf ?_;rw[<-(rel.val k).isSome_eq,<-l];exact h _ (I.tok _)
 ·subst ey;cases (show u=cQ b from ry);obtain⟨z,hd,xs,rel,dd⟩:=Ff I.hok e;refine wpAny_notIn_heap (ic hu) (y9 I.hok eb) hd dd ?_;have q:=(rel.val k).isSome_eq;rw[nE]at q;rw[<-q,<-l];exact h _ (I.tok _)
def AB{h':Heap}(I:Inv X pins Z H s)(mu:PZ (H a))(hs:cK a s.heap h')(he:∃q,h'.get? a=some q)(new:ObjOk X.prog X.w (upd H a ob) h' a ob):
  Inv X pins Z (upd H a ob) {s with heap:=h',toks:=t'}:=
 I.write (x:=a) (e:=a) mu (.inl rfl) (λb q hb z=>(hs.2 b hb).trans z) he new
end
def Jw{s:aI}(I:Inv X pins Z H s)(g:DGet H a y o):s.TypeIs (.ref a) "dict":=by
 rcases g with ⟨kvs,k,e,_,_⟩|⟨kvs,k,b,e,_,_,_⟩
 ·obtain⟨_,_,vs,_,dd⟩:=Jx I.hok e;exact dd.typeIs
 ·obtain⟨_,_,xs,_,dd⟩:=Ff I.hok e;exact dd.typeIs
def Vs(h:Heap)(hb:gF<h.objs.size):ObjOk P w H (h.push {cls:=.type "dict",data:=.dict #[]}) h.objs.size (.dK []):=
 ⟨bX _,beq_eq_false_iff_ne.mpr (fM (bJ hb)),[],.nil,Heap.DictOf.new h⟩
def Vt(h:Heap)(hb:gF<h.objs.size):ObjOk P w H (h.push {cls:=.type "dict",data:=.dict #[]}) h.objs.size (.dT []):=
 ⟨bX _,beq_eq_false_iff_ne.mpr (fM (bJ hb)),[],.nil,_,#[],0,aX _ rfl,⟨rfl,rfl,rfl⟩,rfl,rfl,kM⟩
def NI:TE:=λ_ H Q=>∀p,H p=none->Q (.ref p) (upd H p (.dK []))
def Zm:TE:=λ_ H Q=>∀p,H p=none->Q (.ref p) (upd H p (.dT []))
section
variable{X:Cx}{pos:Pos}
def Xt:PE X (.Dict [] [] pos) NI:=λpins s Z H Q I h=>
 wpAny_Dict_empty ⟨.ref s.heap.objs.size,_,I.laid (a:=s.heap.objs.size) (o:=.dK []) (t':=s.toks) (λ_ _ q=>aD _ q) (aH _) (Vs s.heap I.big),rfl,h _ (I.hok.fresh (aH _))⟩
def Xu:PE X (.Dict [] [] pos) Zm:=λpins s Z H Q I h=>
 wpAny_Dict_empty ⟨.ref s.heap.objs.size,_,I.laid (a:=s.heap.objs.size) (o:=.dT []) (t':=s.toks) (λ_ _ q=>aD _ q) (aH _) (Vt s.heap I.big),rfl,h _ (I.hok.fresh (aH _))⟩
end
structure M1(X:Cx)(o:Expr)(m:Str)(apos:Pos)(e:Expr)(cpos:Pos):Prop where
 base:jK o m X.env (eval o X.env)=eval o X.env
 few:((eZ cpos (bE [e] X.env)).all (λx=> !x.1) && (nS cpos (kE [] X.env)).all (λx=>x.1.isSome)
  && decide (([e]:List Expr).length+([]:List iA).length+(if([]:List iA).isEmpty then 0 else 1)<30))=true
 line:(apos.endLine==cpos.line)=true
 trees:eZ cpos (bE [e] X.env)=[(false,eval e X.env)]
structure M2(X:Cx)(o:Expr)(m:Str)(apos:Pos)(e f:Expr)(cpos:Pos):Prop where
 base:jK o m X.env (eval o X.env)=eval o X.env
 few:((eZ cpos (bE [e,f] X.env)).all (λx=> !x.1) && (nS cpos (kE [] X.env)).all (λx=>x.1.isSome)
  && decide (([e,f]:List Expr).length+([]:List iA).length+(if([]:List iA).isEmpty then 0 else 1)<30))=true
 line:(apos.endLine==cpos.line)=true
 trees:eZ cpos (bE [e,f] X.env)=[(false,eval e X.env),(false,eval f X.env)]
def YF(H:Hp)(a:Addr):Prop:=(∃kvs,Rd H a (.dK kvs))\/∃kvs,Rd H a (.dT kvs)
def JP(I:Inv X pins Z H s)(d:YF H a):
  s.TypeIs (.ref a) "dict"/\(∀b,cQ a=.ref b->∃ob,s.heap.get? b=some ob/\ob.dict=none)/\(a==gF)=false:=by
 rcases d with ⟨kvs,e⟩|⟨kvs,e⟩
 ·obtain⟨_,hd,vs,_,dd⟩:=Jx I.hok e;refine⟨dd.typeIs,λb q=>?_,hd⟩;cases q;obtain⟨ob,_,_,h1,h2,_⟩:=dd;exact⟨ob,h1,h2.2.1⟩
 ·obtain⟨_,hd,xs,_,dd⟩:=Ff I.hok e;refine⟨dd.typeIs,λb q=>?_,hd⟩;cases q;obtain⟨ob,_,_,h1,h2,_⟩:=dd;exact⟨ob,h1,h2.2.1⟩
end L2
namespace Att
open PySem PySem.W PySem.Calls PyProof.Rows
def Ay:∀(ns:List Int)(vs:List aC),WellAll P h vs (ns.map WData.int)->fO vs ns:=by
 intro ns;induction ns with
 |nil=>
  intro vs w;rw[kL]at w;cases w;exact .nil
 |cons n ns ih=>
  intro vs w;rw[aV]at w;cases w with
  |cons a b=>
   cases a;exact .cons _ _ (ih _ b)
def T1{l:OpenLaw}(hn:l.most=some n)
  (hpre:l.row.toRowW.claim.pre args=true)(hwl:WellAll P h vals args):
  ∃a vs ns,vals=[cQ a]/\args=[WData.list (ns.map WData.int)]/\h.get? a=some {cls:=.type "list",data:=.seq vs.toArray}/\fO vs ns/\ns.length<=n:=by
 have hsh:WShape.hasAll [] args [.list .int]=true:=(pre_splitW hpre).1;have hc:l.pre.holds [] {args:=args}=true:=(pre_splitW hpre).2;obtain⟨d,r,rfl,h1,h2⟩:=hasAllW_cons hsh;obtain rfl:=hasAllW_nil h2;obtain⟨xs,rfl,h3⟩:=hasW_list h1;obtain⟨ns,rfl⟩:=items_int h3;have hlen:ns.length<=n:=by
  unfold OpenLaw.pre at hc;have h4:(WTm.not (.lt (.lit (.int (n:Int))) (.len (.arg 0)))).holds [] {args:=[.list (ns.map .int)]}=true:=by
   have h4:=(holds_andW hc).1;rw[hn]at h4;exact h4
  have h5:=condW_of h4 (w_not (w_lt w_lit (w_len_list (w_arg rfl))));rw[aO]at h5;refine nU λq=>?_;have q':(n:Int)<((ns.length:Nat):Int):=by lia
  first
   |(rw[decide_eq_true q']at h5;exact absurd h5 (by decide))
   |(simp at h5;lia)
 cases hwl with
 |cons w1 w2=>
  cases w2;cases w1 with
  |list ho hall=>exact⟨_,_,ns,rfl,rfl,ho,Ay ns _ hall,hlen⟩
def Tj(l:OpenLaw)(args:List WData):l.row.toRowW.claim.post args (.bool true) args=true:=
 postW_of (r:=l.row.toRowW) (X:=(true==true))
  (show WShape.has [] (.bool true) .bool=true by first|rfl|decide|simp[WShape.has,WShape.arms,WShape.armsAll])
  (show(WTm.eq .res (.lit (.bool true))).value [] {args:=args,res:=some (.bool true),after:=args}=some (.bool (true==true))from w_eq_bool (w_res rfl) w_lit) rfl
def Ji{l:OpenLaw}{n:Nat}{q:bQ}{loose:List Str}{XP:(Str->Option aC)->Heap->Prop}{YP:bZ->Heap->Prop}{d:DefRec}
  (hn:l.most=some n)(hdf:d.params.defaults=[])
  (call:∀(w:bZ)(s₀ s₁:aI)(mg mb:Str->Option aC)(fa:Addr)(o:Obj)(pm cd doc:aC)(a:Addr)(vs:List aC)(ns:List Int),
   Ground q loose [] XP w s₀ mg mb s₁.heap->YP w s₁.heap->
   s₁.heap.get? fa=some o->o.data=.func (docDef d.name d.params d.body d.scope pm cd doc)->s₁.heap.CodeRec cd d.name->mg d.name=some (.ref fa)->
   s₁.heap.get? a=some {cls:=.type "list",data:=.seq vs.toArray}->fO vs ns->ns.length<=n->s₁.gens=#[]->
   iO (bH l.prog w) pD (.call (.ref fa) ⟨[.ref a],[]⟩) (λr s'=>r=.ok (.ret (.bool true))/\OldK s₁.heap s'.heap/\s'.os=s₁.os/\mC s'.gens) s₁):
  WalkO q loose XP YP l.row.toRowW d [] (λf vs=>PySem.call f vs):=by
 intro w s₀ s₁ mg mb G Y fa o pm cd doc dV kV ho hd hcd hD hmg hg args vals as hpre hlay hrd hwl hlo;obtain rfl:dV=.none:=Dflts.none hD hdf;obtain rfl:kV=.none:=Dflts.noKw hD;obtain⟨a,vs,ns,rfl,rfl,hobj,hints,hlen⟩:=T1 hn hpre hwl;refine enter_call (eP (call w s₀ s₁ mg mb fa o pm cd doc a vs ns G Y ho (fd_plain hd) hcd hmg hobj hints hlen hg) λr s' hq=>?_);obtain⟨rfl,h2,h3,h4⟩:=hq;exact⟨.inl ⟨.bool true,.bool true,[],rfl,λ_=>rfl,.bool true,Tj l _,λ_=>⟨iQ,λ_ hm=>(nomatch hm)⟩⟩,h2,h3,h4⟩
end Att
namespace L2
open PySem PySem.Spec PyProof.Rows
theorem zr:∀{vs:List aC}{ns:List Int},fO vs ns->Vals (ns.map V.int) vs
 |_,_,.nil=>.nil
 |_,_,.cons n t h=>.cons ⟨t,rfl⟩ (zr h)
end L2
namespace L2
open PySem PySem.Spec PyProof.Rows
set_option bootstrap.genMatcherCode true in
def iz(s:Stmt):lC:=match s with
 |.FunctionDef _ a _ _ _ _ _ _ _ _=>a
 |_=>{posonlyargs:=[],args:=[],vararg:=none,kwonlyargs:=[],kw_defaults:=[],kwarg:=none,defaults:=[]}
set_option bootstrap.genMatcherCode true in
def ff(s:Stmt):List Stmt:=match s with
 |.FunctionDef _ _ b _ _ _ _ _ _ _=>b
 |_=>[]
set_option bootstrap.genMatcherCode true in
def bu(s:Stmt):eI:=match s with
 |.FunctionDef _ _ _ _ _ _ sc _ _ _=>sc
 |_=>{kind:=.function,names:=[],isGenerator:=false,isCoroutine:=false}
abbrev OB:AZ:=λ_ _ _ _ _ _=>False
abbrev E0:XK:=λ_ _ _=>False
structure Fun(K:aU)(x qual:Str)(st:Stmt)(f:Addr)(fd:iC):Prop where
 ex:∃(oc:aC) (od:Option Addr) (kV doc pm:aC) (an:Option Addr) (cdv ct:aC) (osl:Array (Option aC)),
  fd=eD x qual (iz st) (ff st) (bu st) .none kV doc pm an cdv ct/\K.lookup f=some ⟨oc,od,.func fd,osl⟩/\gG K cdv qual=true
 kp:cX K (.ref f)=true
section
variable{P:bQ}{w:bZ}{K:aU}{mg:Str->Option aC}{base:Heap}
def Fun.binds{x qual:Str}{st:Stmt}{f:Addr}{fd:iC}{ps:List Str}(F:Fun K x qual st f fd)
  (h:∀(kV doc pm:aC)(an:Option Addr)(cdv ct:aC)(us:List aC),us.length=ps.length->bindArgs (eD x qual (iz st) (ff st) (bu st) .none kV doc pm an cdv ct) ⟨us,[]⟩=pure (ps.zip us)):Binds K fd ps []:=by
 obtain⟨oc,od,kV,doc,pm,an,cdv,ct,osl,rfl,lk,hcd⟩:=F.ex;exact .all (h kV doc pm an cdv ct)
def V7{x qual:Str}{st:Stmt}{f:Addr}{oc:aC}{od an:Option Addr}{osl:Array (Option aC)}{kV doc pm cdv ct:aC}(l:K.lookup f=some ⟨oc,od,.func (eD x qual (iz st) (ff st) (bu st) .none kV doc pm an cdv ct),osl⟩)
  (c:gG K cdv qual=true)(k:cX K (.ref f)=true):Fun K x qual st f (eD x qual (iz st) (ff st) (bu st) .none kV doc pm an cdv ct):=⟨⟨oc,od,kV,doc,pm,an,cdv,ct,osl,rfl,l,c⟩,k⟩
end
def Same(H H':Hp):Prop:=∀b o,H b=some o->H' b=some o
def Same.refl(H:Hp):Same H H:=λ_ _ h=>h
def Same.trans(a:Same H H1)(b:Same H1 H2):Same H H2:=λc o h=>b c o (a c o h)
def Same.seq{K:aU}{H H':Hp}{a:Addr}{xs:List V}(e:Same H H')(h:SqL K H a xs):SqL K H' a xs:=by
 rcases h with (h|⟨o,h⟩)|h
 ·exact .inl (.inl (e _ _ h))
 ·exact .inl (.inr ⟨o,e _ _ h⟩)
 ·exact .inr h
end L2
end
section
namespace Pu
open PySem
def Mc:List (Addr×Addr×Str):=[(86,82,"is_columns.<locals>.<lambda>"),(134,132,"choices.<locals>.<lambda>"),(239,237,"_law_choices.<locals>.<lambda>")]
def Cz:List Addr:=[]
end Pu
end
section
namespace Pu
open PySem PySem.Spec PyProof.Rows L2
abbrev St:=L2.St
structure KA where
 K:aU
 A:Str->Addr
instance:CoeOut KA aU:=⟨KA.K⟩
def ym(mg:Str->Option aC)(x:Str):Addr:=match mg x with
 |some (.ref a)=>a
 |_=>0
abbrev kx(X:Cx):KA:=⟨X.K,ym X.mg⟩
abbrev EK:=Str->Hp->Prop
abbrev ek(K:KA)(E:XK):EK:=λc H=>E (.ref (K.A c)) none H
inductive D where
 |non
 |bl (b:Bool)
 |int (i:Int)
 |str (x:Str)
 |tup (ds:List D)
 |lst (ds:List D)
 |dct (t:Bool) (kvs:List (D×D))
 |obj (e:Expr) (fs:List (Str×D))
 |fn (f:Str)
def kD:rn->D
 |.inl i=>.int i
 |.inr x=>.str x
def cx:List (Str×fP)->List Str
 |[]=>[]
 |(n,k)::r=>if k=.free then n::cx r else cx r
def LamAt(H:Hp)(e:Expr)(a:Addr)(vs:List (Str×V)):Prop:=match e with
 |.Lambda params body scope _=>∃(qual:Str) (pm:aC) (c':Addr) (ctv:aC) (cl:List (Str×Addr)) (oc:Obj) (cvs:Array aC) (t:Tok),
   H a=some (.frz (oQ "<lambda>" qual params body scope cl pm c' ctv) (.own 0))/\H c'=some (.frz oc (.own 0))/\oc.data=.fields cvs/\cvs[1]?=some (.str qual t)/\
   (∀x y c,cl.lookup x=some c->cl.lookup y=some c->x=y)/\(∀y,(y,cR)∈scope.names->∃c,cl.lookup y=some c)/\(∀y c,cl.lookup y=some c->(y,cR)∈scope.names)/\
   (∀y c,cl.lookup y=some c->∃o v u,H c=some (.frz o (.own 0))/\o.data=.cell (some u)/\(y,v)∈vs/\RelV v u)/\vs.map (·.1)=cx scope.names
 |_=>False
def LamAt.mono(q:Same H H')(h:LamAt H e a vs):LamAt H' e a vs:=by
 unfold LamAt at h⊢;split at h
 ·obtain⟨qual,pm,c',ctv,cl,oc,cvs,t,h1,h2,h3,h4,h5,h6,h7,h8,h9⟩:=h;refine⟨qual,pm,c',ctv,cl,oc,cvs,t,q _ _ h1,q _ _ h2,h3,h4,h5,h6,h7,λy c z=>?_,h9⟩;obtain⟨o,v,u,z1,z2⟩:=h8 y c z;exact⟨o,v,u,q _ _ z1,z2⟩
 ·exact h.elim
def KR:NK->D
 |.inl k=>kD k
 |.inr ks=>.tup (ks.map kD)
def kT(k:bg):D:=.tup (k.map KR)
mutual
def Den(K:KA)(H:Hp):D->V->Prop
 |.non,v=>v=.non
 |.bl b,v=>v=.bl b
 |.int i,v=>v=.int i
 |.str x,v=>v=.str x
 |.tup ds,v=>∃a vs,v=.ref a/\H a=some (.tup vs)/\DenL K H ds vs
 |.lst ds,v=>∃a vs,v=.ref a/\SqL K H a vs/\DenL K H ds vs
 |.dct t kvs,v=>∃a,v=.ref a/\((t=false/\∃es,H a=some (.dK es)/\DenK K H kvs es)\/(t=true/\∃es,H a=some (.dT es)/\DenT K H kvs es))
 |.obj e fs,v=>∃a vs,v=.ref a/\LamAt H e a vs/\DenF K H fs vs
 |.fn f,v=>v=.ref (K.A f)
def DenL(K:KA)(H:Hp):List D->List V->Prop
 |[],vs=>vs=[]
 |d::ds,vs=>∃v r,vs=v::r/\Den K H d v/\DenL K H ds r
def DenF(K:KA)(H:Hp):List (Str×D)->List (Str×V)->Prop
 |[],vs=>vs=[]
 |(n,d)::ds,vs=>∃v r,vs=(n,v)::r/\Den K H d v/\DenF K H ds r
def DenK(K:KA)(H:Hp):List (D×D)->List (rn×V)->Prop
 |[],vs=>vs=[]
 |(k,d)::ds,vs=>∃k' v r,vs=(k',v)::r/\k=kD k'/\Den K H d v/\DenK K H ds r
def DenT(K:KA)(H:Hp):List (D×D)->List (bg×V)->Prop
 |[],vs=>vs=[]
 |(k,d)::ds,vs=>∃k' v r,vs=(k',v)::r/\k=kT k'/\Den K H d v/\DenT K H ds r
end
def SqL.mono{K:KA}{H H':Hp}{a:Addr}{xs:List V}(e:Same H H')(h:SqL K H a xs):SqL K H' a xs:=e.seq h
def SqT.mono{K:KA}{H H':Hp}{a:Addr}{xs:List V}(e:Same H H')(h:SqT K H a xs):SqT K H' a xs:=by
 rcases h with (h|⟨o,h⟩)|h
 ·exact .inl (.inl (e _ _ h))
 ·exact .inl (.inr ⟨o,e _ _ h⟩)
 ·exact .inr h
mutual
theorem Den.mono{K:KA}{H H':Hp}(e:Same H H'):∀{d:D}{v:V},Den K H d v->Den K H' d v
 |.non,_,h=>h
 |.bl _,_,h=>h
 |.int _,_,h=>h
 |.str _,_,h=>h
 |.tup _,_,⟨a,vs,h1,h2,h3⟩=>⟨a,vs,h1,e _ _ h2,DenL.mono e h3⟩
 |.lst _,_,⟨a,vs,h1,h2,h3⟩=>⟨a,vs,h1,SqL.mono e h2,DenL.mono e h3⟩
 |.dct _ _,_,⟨a,h1,h2⟩=>⟨a,h1,h2.elim (λ⟨z,es,q1,q2⟩=>.inl ⟨z,es,e _ _ q1,DenK.mono e q2⟩) λ⟨z,es,q1,q2⟩=>.inr ⟨z,es,e _ _ q1,DenT.mono e q2⟩⟩
 |.obj _ _,_,⟨a,vs,h1,h2,h3⟩=>⟨a,vs,h1,h2.mono e,DenF.mono e h3⟩
 |.fn _,_,h=>h
theorem DenL.mono{K:KA}{H H':Hp}(e:Same H H'):∀{ds:List D}{vs:List V},DenL K H ds vs->DenL K H' ds vs
 |[],_,h=>h
 |_::_,_,⟨v,r,h1,h2,h3⟩=>⟨v,r,h1,Den.mono e h2,DenL.mono e h3⟩
theorem DenF.mono{K:KA}{H H':Hp}(e:Same H H'):∀{ds:List (Str×D)}{vs:List (Str×V)},DenF K H ds vs->DenF K H' ds vs
 |[],_,h=>h
 |(_,_)::_,_,⟨v,r,h1,h2,h3⟩=>⟨v,r,h1,Den.mono e h2,DenF.mono e h3⟩
theorem DenK.mono{K:KA}{H H':Hp}(e:Same H H'):∀{ds:List (D×D)}{vs:List (rn×V)},DenK K H ds vs->DenK K H' ds vs
 |[],_,h=>h
 |(_,_)::_,_,⟨k,v,r,h1,h0,h2,h3⟩=>⟨k,v,r,h1,h0,Den.mono e h2,DenK.mono e h3⟩
theorem DenT.mono{K:KA}{H H':Hp}(e:Same H H'):∀{ds:List (D×D)}{vs:List (bg×V)},DenT K H ds vs->DenT K H' ds vs
 |[],_,h=>h
 |(_,_)::_,_,⟨k,v,r,h1,h0,h2,h3⟩=>⟨k,v,r,h1,h0,Den.mono e h2,DenT.mono e h3⟩
end
section
variable{K:KA}{G H:Hp}
theorem DenL.length:∀{ds:List D}{vs:List V},DenL K H ds vs->ds.length=vs.length
 |[],_,h=>by rw[show _=[]from h];rfl
 |_::_,_,⟨v,r,h1,_,h3⟩=>by rw[h1,aE,aE,DenL.length h3]
theorem DenL.get:∀{ds:List D}{vs:List V}{i:Nat}{d:D},DenL K H ds vs->ds[i]?=some d->∃v,vs[i]?=some v/\Den K H d v
 |[],_,_,_,_,e=>by simp at e
 |_::_,_,0,_,⟨v,r,h1,h2,_⟩,e=>by
  simp at e;subst e;subst h1;exact⟨v,rfl,h2⟩
 |_::_,_,i+1,_,⟨v,r,h1,_,h3⟩,e=>by
  obtain⟨w,q1,q2⟩:=DenL.get (i:=i) h3 (by simpa using e);subst h1;exact⟨w,by simpa using q1,q2⟩
theorem DenL.append:∀{ds es:List D}{vs ws:List V},DenL K H ds vs->DenL K H es ws->DenL K H (ds++es) (vs++ws)
 |[],_,_,_,h,q=>by rw[show _=[]from h];exact q
 |_::_,_,_,_,⟨v,r,h1,h2,h3⟩,q=>⟨v,r++_,by rw[h1];rfl,h2,DenL.append h3 q⟩
def DenL.one(h:Den K H d v):DenL K H [d] [v]:=⟨v,[],rfl,h,rfl⟩
theorem DenL.drop:∀(n:Nat){ds:List D}{vs:List V},DenL K H ds vs->DenL K H (ds.drop n) (vs.drop n)
 |0,_,_,h=>h
 |_+1,[],_,h=>by rw[show _=[]from h];exact rfl
 |n+1,_::_,_,⟨v,r,h1,_,h3⟩=>by subst h1;exact DenL.drop n h3
theorem DenL.take:∀(n:Nat){ds:List D}{vs:List V},DenL K H ds vs->DenL K H (ds.take n) (vs.take n)
 |0,_,_,_=>rfl
 |_+1,[],_,h=>by rw[show _=[]from h];exact rfl
 |n+1,_::_,_,⟨v,r,h1,h2,h3⟩=>by subst h1;exact⟨v,r.take n,rfl,h2,DenL.take n h3⟩
end
def WH:HO->Bool
 |.frz _ _=>false
 |.tup _=>false
 |_=>true
structure Ext(G H G' H':Hp):Prop where
 gg:Same G G'
 hh:Same H H'
 gh:Same G' H'
 fr:∀a o,H a=some o->G a=none->WH o=true->G' a=none
theorem Ext.refl(h:Same G H):Ext G H G H:=⟨Same.refl G,Same.refl H,h,λ_ _ _ q _=>q⟩
theorem Ext.trans(a:Ext G H G1 H1)(b:Ext G1 H1 G2 H2):Ext G H G2 H2:=
 ⟨a.gg.trans b.gg,a.hh.trans b.hh,b.gh,λx o h g z=>b.fr x o (a.hh x o h) (a.fr x o h g z) z⟩
def fq(h:H p=none)(o:HO):Same H (upd H p o):=λb u q=>by rw[ak (aq q h)];exact q
def Ext.new(h:Same G H)(o:HO)(n:H p=none):Ext G H (upd G p o) (upd H p o):=by
 have ng:G p=none:=by
  cases e:G p with
  |none=>rfl
  |some u=>rw[h p u e]at n;cases n
 refine⟨fq ng o,fq n o,λb u q=>?_,λa u q g _=>?_⟩
 ·by_cases e:b=p
  ·subst e;rw[ar]at q⊢;exact q
  ·rw[ak e]at q⊢;exact h b u q
 ·rw[ak (aq q n)];exact g
def Ext.own(h:Same G H)(o:HO)(n:H p=none):Ext G H G (upd H p o):=by
 refine⟨Same.refl G,fq n o,λb u q=>?_,λa u q g _=>g⟩;exact fq n o b u (h b u q)
def Ext.known(h:Same G H)(e:H p=some (.frz o u)):Ext G H (upd G p (.frz o u)) H:=by
 refine⟨λb v q=>?_,Same.refl H,λb v q=>?_,λa v q g z=>?_⟩
 ·by_cases hb:b=p
  ·subst hb;rw[ar,<-e];exact h b v q
  ·rw[ak hb];exact q
 ·by_cases hb:b=p
  ·subst hb;rw[ar]at q;rw[e];exact q
  ·rw[ak hb]at q;exact h b v q
 ·by_cases hb:a=p
  ·subst hb;rw[e]at q;cases q;cases z
  ·rw[ak hb];exact g
def Arg(K:KA)(G H:Hp)(d:D)(v:V):Prop:=
 Den K G d v\/(∃ds a vs,d=.lst ds/\v=.ref a/\SqL K H a vs/\DenL K G ds vs)\/
  ∃t kvs a,d=.dct t kvs/\v=.ref a/\((t=false/\∃es,H a=some (.dK es)/\DenK K G kvs es)\/(t=true/\∃es,H a=some (.dT es)/\DenT K G kvs es))
def Arg.ext{K:KA}{G H G' H':Hp}{d:D}{v:V}(e:Ext G H G' H')(h:Arg K G H d v):Arg K G' H' d v:=by
 rcases h with h|⟨ds,a,vs,h1,h2,h3,h4⟩|⟨t,kvs,a,h1,h2,h3⟩
 ·exact .inl (h.mono e.gg)
 ·exact .inr (.inl ⟨ds,a,vs,h1,h2,SqL.mono e.hh h3,h4.mono e.gg⟩)
 ·exact .inr (.inr ⟨t,kvs,a,h1,h2,h3.elim (λ⟨z,es,q1,q2⟩=>.inl ⟨z,es,e.hh _ _ q1,q2.mono e.gg⟩) λ⟨z,es,q1,q2⟩=>.inr ⟨z,es,e.hh _ _ q1,q2.mono e.gg⟩⟩)
theorem Arg.lst{K:KA}{G H:Hp}{ds:List D}{v:V}(s:Same G H)(h:Arg K G H (.lst ds) v):∃a vs,v=.ref a/\SqL K H a vs/\DenL K G ds vs:=by
 rcases h with ⟨a,vs,h1,h2,h3⟩|⟨ds',a,vs,h1,h2,h3,h4⟩|⟨t,kvs,a,h1,_⟩
 ·exact⟨a,vs,h1,SqL.mono s h2,h3⟩
 ·cases h1;exact⟨a,vs,h2,h3,h4⟩
 ·cases h1
def Arg.tup0{K:KA}{G H:Hp}{ds:List D}{v:V}(s:Same G H)(h:Arg K G H (.tup ds) v):∃a vs,v=.ref a/\H a=some (.tup vs)/\DenL K G ds vs:=by
 rcases h with ⟨a,vs,h1,h2,h3⟩|⟨ds',a,vs,h1,_⟩|⟨t,kvs,a,h1,_⟩
 ·exact⟨a,vs,h1,s _ _ h2,h3⟩
 ·cases h1
 ·cases h1
theorem Arg.tup{K:KA}{G H:Hp}{ds:List D}{v:V}(s:Same G H)(h:Arg K G H (.tup ds) v):∃a vs,v=.ref a/\SqT K H a vs/\DenL K G ds vs:=by
 obtain⟨a,vs,h1,h2,h3⟩:=h.tup0 s;exact⟨a,vs,h1,.inl (.inl h2),h3⟩
theorem Arg.int{K:KA}{G H:Hp}{i:Int}{v:V}(h:Arg K G H (.int i) v):v=.int i:=by
 rcases h with h|⟨ds',a,vs,h1,_⟩|⟨t,kvs,a,h1,_⟩
 ·exact h
 ·cases h1
 ·cases h1
theorem Arg.bl{K:KA}{G H:Hp}{i:Bool}{v:V}(h:Arg K G H (.bl i) v):v=.bl i:=by
 rcases h with h|⟨ds',a,vs,h1,_⟩|⟨t,kvs,a,h1,_⟩
 ·exact h
 ·cases h1
 ·cases h1
theorem Arg.str{K:KA}{G H:Hp}{i:Str}{v:V}(h:Arg K G H (.str i) v):v=.str i:=by
 rcases h with h|⟨ds',a,vs,h1,_⟩|⟨t,kvs,a,h1,_⟩
 ·exact h
 ·cases h1
 ·cases h1
theorem Arg.non{K:KA}{G H:Hp}{v:V}(h:Arg K G H .non v):v=.non:=by
 rcases h with h|⟨ds',a,vs,h1,_⟩|⟨t,kvs,a,h1,_⟩
 ·exact h
 ·cases h1
 ·cases h1
theorem Arg.fn{K:KA}(h:Arg K G H (.fn f) v):v=.ref (K.A f):=by
 rcases h with h|⟨ds',a,vs,h1,_⟩|⟨t,kvs,a,h1,_⟩
 ·exact h
 ·cases h1
 ·cases h1
inductive Res where
 |ok (d:D)
 |er (c:Str)
 |st
def Res.bind(r:Res)(f:D->Res):Res:=match r with
 |.ok d=>f d
 |.er c=>.er c
 |.st=>.st
def Res.of(o:Option D):Res:=match o with
 |some d=>.ok d
 |none=>.st
inductive ResL where
 |ok (ds:List D)
 |er (c:Str)
 |st
inductive Sl where
 |no
 |pu (d:D)
 |bo (d:D)
 |ow (ds:List D)
 |od (t:Bool) (kvs:List (D×D))
abbrev En:=List Sl
def SlOk(K:KA)(B G H:Hp):Sl->Option V->Prop
 |.no,_=>True
 |.pu d,o=>∃v,o=some v/\Den K G d v
 |.bo d,o=>∃v,o=some v/\Arg K G B d v
 |.ow ds,o=>∃a vs,o=some (.ref a)/\H a=some (.lst vs)/\DenL K G ds vs
 |.od false kvs,o=>∃a es,o=some (.ref a)/\H a=some (.dK es)/\DenK K G kvs es
 |.od true kvs,o=>∃a es,o=some (.ref a)/\H a=some (.dT es)/\DenT K G kvs es
def Sl.own:Sl->Bool
 |.ow _=>true
 |.od _ _=>true
 |_=>false
def GOk(H:Hp):Prop:=∀p∈Mc,H p.2.1=some (.tbl (p.2.2))
def GOk.same(e:Same H H')(h:GOk H):GOk H':=λp hp=>e _ _ (h p hp)
structure EnvR(K:KA)(B G H:Hp)(Z:St)(U:En):Prop where
 bh:Same B H
 gh:Same G H
 len:Z.length=U.length
 sl:∀(i:Nat) s,U[i]?=some s->∃o,Z[i]?=some o/\SlOk K B G H s o
 own:∀(i:Nat) s a,U[i]?=some s->s.own=true->Z[i]?=some (some (V.ref a))->G a=none/\B a=none
 dis:∀(i j:Nat) s t a,U[i]?=some s->U[j]?=some t->s.own=true->t.own=true->Z[i]?=some (some (V.ref a))->Z[j]?=some (some (V.ref a))->i=j
 gb:GOk B
def PR{K:KA}{G G' H:Hp}{d:D}{v:V}(e:Same G G')(h:Arg K G H d v):Arg K G' H d v:=by
 rcases h with h|⟨ds,a,vs,h1,h2,h3,h4⟩|⟨t,kvs,a,h1,h2,h3⟩
 ·exact .inl (h.mono e)
 ·exact .inr (.inl ⟨ds,a,vs,h1,h2,h3,h4.mono e⟩)
 ·exact .inr (.inr ⟨t,kvs,a,h1,h2,h3.elim (λ⟨z,es,q1,q2⟩=>.inl ⟨z,es,q1,q2.mono e⟩) λ⟨z,es,q1,q2⟩=>.inr ⟨z,es,q1,q2.mono e⟩⟩)
def WS{K:KA}{G H H':Hp}{d:D}{v:V}(e:Same H H')(h:Arg K G H d v):Arg K G H' d v:=by
 rcases h with h|⟨ds,a,vs,h1,h2,h3,h4⟩|⟨t,kvs,a,h1,h2,h3⟩
 ·exact .inl h
 ·exact .inr (.inl ⟨ds,a,vs,h1,h2,SqL.mono e h3,h4⟩)
 ·exact .inr (.inr ⟨t,kvs,a,h1,h2,h3.elim (λ⟨z,es,q1,q2⟩=>.inl ⟨z,es,e _ _ q1,q2⟩) λ⟨z,es,q1,q2⟩=>.inr ⟨z,es,e _ _ q1,q2⟩⟩)
def SlOk.ext{K:KA}{B G H G' H':Hp}(e:Ext G H G' H'){s:Sl}{o:Option V}(h:SlOk K B G H s o):SlOk K B G' H' s o:=by
 cases s with
 |no=>trivial
 |pu d=>obtain⟨v,h1,h2⟩:=h;exact⟨v,h1,h2.mono e.gg⟩
 |bo d=>obtain⟨v,h1,h2⟩:=h;exact⟨v,h1,PR e.gg h2⟩
 |ow ds=>obtain⟨a,vs,h1,h2,h3⟩:=h;exact⟨a,vs,h1,e.hh _ _ h2,h3.mono e.gg⟩
 |od t kvs=>
  cases t with
  |false=>obtain⟨a,vs,h1,h2,h3⟩:=h;exact⟨a,vs,h1,e.hh _ _ h2,h3.mono e.gg⟩
  |true=>obtain⟨a,vs,h1,h2,h3⟩:=h;exact⟨a,vs,h1,e.hh _ _ h2,h3.mono e.gg⟩
theorem SlOk.ref{K:KA}{B G H:Hp}{s:Sl}{o:Option V}(h:SlOk K B G H s o)(q:s.own=true):∃a,o=some (V.ref a)/\∃u,H a=some u/\WH u=true:=by
 cases s with
 |no=>cases q
 |pu d=>cases q
 |bo d=>cases q
 |ow ds=>obtain⟨a,vs,h1,h2,_⟩:=h;exact⟨a,h1,_,h2,rfl⟩
 |od t kvs=>
  cases t with
  |false=>obtain⟨a,vs,h1,h2,_⟩:=h;exact⟨a,h1,_,h2,rfl⟩
  |true=>obtain⟨a,vs,h1,h2,_⟩:=h;exact⟨a,h1,_,h2,rfl⟩
theorem EnvR.ext{K:KA}{B G H G' H':Hp}{Z:St}{U:En}(e:Ext G H G' H')(r:EnvR K B G H Z U):EnvR K B G' H' Z U where
 bh:=r.bh.trans e.hh
 gb:=r.gb
 gh:=e.gh
 len:=r.len
 sl:=λi s h=>by
  obtain⟨o,q1,q2⟩:=r.sl i s h;exact⟨o,q1,q2.ext e⟩
 own:=λi s a h1 h2 h3=>by
  obtain⟨g,b⟩:=r.own i s a h1 h2 h3;obtain⟨o,q1,q2⟩:=r.sl i s h1;rw[h3]at q1;cases q1;obtain⟨a',z,u,q3,q4⟩:=q2.ref h2;cases z;exact⟨e.fr a u q3 g q4,b⟩
 dis:=r.dis
def ResP(E:EK)(G H:Hp)(r:Res)(P:D->Prop):Prop:=match r with
 |.ok d=>P d
 |.er c=>∀G' H',Ext G H G' H'->E c H'
 |.st=>False
def ResLP(E:EK)(G H:Hp)(r:ResL)(P:List D->Prop):Prop:=match r with
 |.ok ds=>P ds
 |.er c=>∀G' H',Ext G H G' H'->E c H'
 |.st=>False
section
variable{E:EK}{G H G' H':Hp}
def ResP.mono(h:ResP E G H r P)(f:∀d,r=.ok d->P d->P' d):ResP E G H r P':=by
 cases r with
 |ok d=>exact f d rfl h
 |er c=>exact h
 |st=>exact h
def ResP.ext(e:Ext G H G' H')(h:ResP E G H r P):ResP E G' H' r P:=by
 cases r with
 |ok d=>exact h
 |er c=>exact λG2 H2 e2=>h G2 H2 (e.trans e2)
 |st=>exact h
theorem ResP.bind{r:Res}(h:ResP E G H (r.bind f) P):ResP E G H r λd=>ResP E G H (f d) P:=by
 cases r with
 |ok d=>exact h
 |er c=>exact h
 |st=>exact h
theorem ResP.of(h:ResP E G H (Res.of o) P):∃d,o=some d/\P d:=by
 cases o with
 |some d=>exact⟨d,rfl,h⟩
 |none=>exact h.elim
def ResLP.mono(h:ResLP E G H r P)(f:∀d,r=.ok d->P d->P' d):ResLP E G H r P':=by
 cases r with
 |ok d=>exact f d rfl h
 |er c=>exact h
 |st=>exact h
def ResLP.ext(e:Ext G H G' H')(h:ResLP E G H r P):ResLP E G' H' r P:=by
 cases r with
 |ok d=>exact h
 |er c=>exact λG2 H2 e2=>h G2 H2 (e.trans e2)
 |st=>exact h
end
def VF(K:KA)(G H:Hp)(m:Bool)(d:D)(v:V):Prop:=match m with
 |true=>Arg K G H d v
 |false=>Den K G d v
def ArgsM(K:KA)(G H:Hp):List Bool->List D->List V->Prop
 |[],ds,vs=>ds=[]/\vs=[]
 |m::ms,ds,vs=>∃d dr v vr,ds=d::dr/\vs=v::vr/\VF K G H m d v/\ArgsM K G H ms dr vr
theorem ArgsM.length{K:KA}{G H:Hp}:∀{ms:List Bool}{ds:List D}{vs:List V},ArgsM K G H ms ds vs->ds.length=ms.length/\vs.length=ms.length
 |[],_,_,⟨h1,h2⟩=>by rw[h1,h2];exact⟨rfl,rfl⟩
 |_::_,_,_,⟨d,dr,v,vr,h1,h2,h3,h4⟩=>by
  obtain⟨q1,q2⟩:=h4.length;rw[h1,h2,aE,aE,aE,q1,q2];exact⟨rfl,rfl⟩
section
variable(K:KA)(B:Hp)(E:EK)
def ON(g:En->Res):TE:=λZ H Q=>∃G U,EnvR K B G H Z U/\ResP E G H (g U) λd=>∀v G' H',Ext G H G' H'->Den K G' d v->Q v H'
def NJ(g:En->Res):TE:=λZ H Q=>∃G U,EnvR K B G H Z U/\ResP E G H (g U) λd=>∀v G' H',Ext G H G' H'->Arg K G' H' d v->Q v H'
def YQ(g:En->Res):TE:=λZ H Q=>∃G U,EnvR K B G H Z U/\ResP E G H (g U) λd=>∃ds,d=.lst ds/\
 ∀a vs G' H',Ext G H G' H'->H a=none->G' a=none->H' a=some (.lst vs)->DenL K G' ds vs->Q (.ref a) H'
def YO(g:En->Res):TT:=λZ H Q=>∃G U,EnvR K B G H Z U/\ResP E G H (g U) λd=>∃b,d=.bl b/\∀G' H',Ext G H G' H'->Q b H'
def XR(ms:List Bool)(g:En->ResL):TA:=λZ H Q=>∃G U,EnvR K B G H Z U/\ResLP E G H (g U) λds=>∀vs G' H',Ext G H G' H'->ArgsM K G' H' ms ds vs->Q vs H'
end
abbrev gq(X:Cx)(B:Hp)(E:EK)(e:Expr)(g:En->Res):Prop:=PE X e (ON (kx X) B E g)
abbrev lx(X:Cx)(B:Hp)(E:EK)(e:Expr)(g:En->Res):Prop:=PE X e (NJ (kx X) B E g)
abbrev Ut(X:Cx)(B:Hp)(E:EK)(e:Expr)(g:En->Res):Prop:=PE X e (YQ (kx X) B E g)
abbrev Ea(X:Cx)(B:Hp)(E:EK)(e:Expr)(g:En->Res):Prop:=PT X e (YO (kx X) B E g)
abbrev AY(X:Cx)(B:Hp)(E:EK)(e:Expr)(g:En->Res):Prop:=PW X e (YO (kx X) B E g)
abbrev Rm(X:Cx)(B:Hp)(E:EK)(ms:List Bool)(es:List Expr)(g:En->ResL):Prop:=PA X es (XR (kx X) B E ms g)
def PE.imp(h:PE X e t)(i:∀Z H Q,t' Z H Q->t Z H Q):PE X e t':=λpins s Z H Q I q=>h pins s Z H Q I (i Z H Q q)
def PT.imp(h:PT X e t)(i:∀Z H Q,t' Z H Q->t Z H Q):PT X e t':=λpins s Z H Q I q=>h pins s Z H Q I (i Z H Q q)
def PW.imp(h:PW X e t)(i:∀Z H Q,t' Z H Q->t Z H Q):PW X e t':=λwh pins s Z H Q I q=>h wh pins s Z H Q I (i Z H Q q)
def PA.imp(h:PA X e t)(i:∀Z H Q,t' Z H Q->t Z H Q):PA X e t':=λpos pins s Z H Q I q=>h pos pins s Z H Q I (i Z H Q q)
section
variable{X:Cx}{B:Hp}{E:EK}{e a b c:Expr}{es:List Expr}{g h k:En->Res}{pos:Pos}
noncomputable def ao(i:Nat):En->Res:=λU=>match U[i]? with
 |some (.pu d)=>.ok d
 |_=>.st
noncomputable def aa(i:Nat):En->Res:=λU=>match U[i]? with
 |some (.pu d)=>.ok d
 |some (.bo d)=>.ok d
 |some (.ow ds)=>.ok (.lst ds)
 |some (.od t kvs)=>.ok (.dct t kvs)
 |_=>.st
noncomputable def gC(d:D):En->Res:=λ_=>.ok d
def EnvR.var{K:KA}{G H:Hp}{Z:St}{U:En}{i:Nat}{d:D}(R:EnvR K B G H Z U)(h:U[i]?=some (.pu d)):∃v,Z[i]?=some (some v)/\Den K G d v:=by
 obtain⟨o,q1,v,q2,q3⟩:=R.sl i _ h;exact⟨v,by rw[q1,q2],q3⟩
def EnvR.arg{K:KA}{G H:Hp}{Z:St}{U:En}{i:Nat}{d:D}(R:EnvR K B G H Z U)(h:aa i U=.ok d):∃v,Z[i]?=some (some v)/\Arg K G H d v:=by
 unfold aa at h;cases e:U[i]? with
 |none=>rw[e]at h;cases h
 |some s=>
  rw[e]at h;obtain⟨o,q1,q2⟩:=R.sl i _ e;cases s with
  |no=>cases h
  |pu d'=>
   cases h;obtain⟨v,q2,q3⟩:=q2;exact⟨v,by rw[q1,q2],.inl q3⟩
  |bo d'=>
   cases h;obtain⟨v,q2,q3⟩:=q2;exact⟨v,by rw[q1,q2],WS R.bh q3⟩
  |ow ds=>
   cases h;obtain⟨a,vs,q2,q3,q4⟩:=q2;exact⟨.ref a,by rw[q1,q2],.inr (.inl ⟨ds,a,vs,rfl,rfl,SqL.of q3,q4⟩)⟩
  |od t kvs=>
   cases h;cases t with
   |false=>
    obtain⟨a,vs,q2,q3,q4⟩:=q2;exact⟨.ref a,by rw[q1,q2],.inr (.inr ⟨false,kvs,a,rfl,rfl,.inl ⟨rfl,vs,q3,q4⟩⟩)⟩
   |true=>
    obtain⟨a,vs,q2,q3,q4⟩:=q2;exact⟨.ref a,by rw[q1,q2],.inr (.inr ⟨true,kvs,a,rfl,rfl,.inr ⟨rfl,vs,q3,q4⟩⟩)⟩
def MK(i:Nat){x:Str}(h:PE X (.Name x pos) (Iq i)):gq X B E (.Name x pos) (ao i):=PE.imp h λZ H Q ⟨G,U,R,q⟩=>by
 unfold ao at q;cases e:U[i]? with
 |none=>rw[e]at q;exact q.elim
 |some s=>
  rw[e]at q;cases s with
  |pu d=>
   obtain⟨v,q1,q2⟩:=R.var e;exact⟨v,q1,q v G H (Ext.refl R.gh) q2⟩
  |no=>exact q.elim
  |bo d=>exact q.elim
  |ow d=>exact q.elim
  |od t d=>exact q.elim
def IW(i:Nat)(h:PE X (.Name x pos) (Iq i)):lx X B E (.Name x pos) (aa i):=PE.imp h λZ H Q ⟨G,U,R,q⟩=>by
 cases e:aa i U with
 |ok d=>
  rw[e]at q;obtain⟨v,q1,q2⟩:=R.arg e;exact⟨v,q1,q v G H (Ext.refl R.gh) q2⟩
 |er c=>
  unfold aa at e;split at e<;>cases e
 |st=>rw[e]at q;exact q.elim
def RZ(h:gq X B E e g):lx X B E e g:=PE.imp h λZ H Q ⟨G,U,R,q⟩=>⟨G,U,R,q.mono λd _ q v G' H' x y=>q v G' H' x (.inl y)⟩
def pk(h:PE X e (tC v))(r:∀H,Den (kx X) H d v):gq X B E e (gC d):=PE.imp h λZ H Q ⟨G,U,R,q⟩=>q v G H (Ext.refl R.gh) (r G)
def MU{i j}:gq X B E (.Constant (.int i) j pos) (gC (.int i)):=pk Xv λ_=>rfl
def RY{b j}:gq X B E (.Constant (.bool b) j pos) (gC (.bl b)):=pk QE λ_=>rfl
def MP{j}:gq X B E (.Constant .none j pos) (gC .non):=pk LU λ_=>rfl
def MN{x j}:gq X B E (.Constant (.str x) j pos) (gC (.str x)):=pk LQ λ_=>rfl
def ER(hg:Gl X x)(hm:X.mg x=some (.str y t))(hd:(x==("__debug__":Str))=false:=by decide):gq X B E (.Name x pos) (gC (.str y)):=pk (v:=.str y) (Qt hg hm ⟨t,rfl⟩ hd) λ_=>rfl
def mx(h:mg x=some (.ref f)):ym mg x=f:=by unfold ym;rw[h]
def MV(hg:Gl X x)(hm:X.mg x=some (.ref f))(hd:(x==("__debug__":Str))=false:=by decide):gq X B E (.Name x pos) (gC (.fn x)):=pk (Qt (v:=.ref f) hg hm rfl hd) λ_=>by show V.ref f=V.ref (ym X.mg x);rw[mx hm]
noncomputable def g1(f:D->Option D)(g:En->Res):En->Res:=λU=>(g U).bind λx=>Res.of (f x)
noncomputable def g2(f:D->D->Option D)(g h:En->Res):En->Res:=λU=>(g U).bind λx=>(h U).bind λy=>Res.of (f x y)
def ib(K:KA)(f:D->D->Option D)(r:R2):Prop:=∀G H x y dx dy d,Same G H->Arg K G H dx x->Arg K G H dy y->f dx dy=some d->
 ∀Q:VK,(∀v G' H',Ext G H G' H'->Den K G' d v->Q v H')->r x y H Q
def UZ{K:KA}{f:D->D->Option D}{r:R2}(hp:ib K f r){Z:St}{H:Hp}{Q:VK}(q:ON K B E (g2 f g h) Z H Q):SQ r (NJ K B E g) (NJ K B E h) Z H Q:=by
 obtain⟨G,U,R,q⟩:=q;refine⟨G,U,R,(ResP.bind q).mono λdx _ qx x G1 H1 e1 ax=>⟨G1,U,R.ext e1,((ResP.bind qx).ext e1).mono λdy _ qy y G2 H2 e2 ay=>?_⟩⟩;obtain⟨d,ed,qd⟩:=ResP.of qy;exact hp G2 H2 x y dx dy d e2.gh (ax.ext e2) ay ed Q λv G' H' e3 dn=>qd v G' H' ((e1.trans e2).trans e3) dn
def Lk(ho:OpR X (gR op) r)(hp:ib (kx X) f r)(ha:lx X B E a g)(hb:lx X B E b h):gq X B E (.BinOp a op b pos) (g2 f g h):=
 PE.imp (HX ho ha hb) λZ H Q q=>UZ hp q
def MW(ho:OpR X (cF op) r)(hp:ib (kx X) f r)(ha:lx X B E a g)(hb:lx X B E b h)(hm:lH op b=false):gq X B E (.Compare a [op] [b] pos) (g2 f g h):=
 PE.imp (DK ho ha hb hm) λZ H Q q=>UZ hp q
def EW{op:CmpOp}{f:D->D->Option D}{r:R2}(ho:OpR X (cF op) r)(hp:ib (kx X) f r)(hb':∀x y d,f x y=some d->∃b,d=.bl b)(ha:lx X B E a g)(hb:lx X B E b h)(hm:lH op b=false):Ea X B E (.Compare a [op] [b] pos) (g2 f g h):=
 PT.imp (EV ho ha hb hm) λZ H Q ⟨G,U,R,q⟩=>UZ hp ⟨G,U,R,q.mono λd ed ⟨b,eb,qb⟩ v G' H' e3 dn=>by
  subst eb;exact⟨b,dn,qb G' H' e3⟩⟩
noncomputable def Ir:D->Option Bool
 |.non=>some false
 |.bl b=>some b
 |.int i=>some (i !=0)
 |.str x=>if x.length<=aQ then some ((x.length:Int) !=0)else none
 |.tup ds=>some !ds.isEmpty
 |.lst ds=>some !ds.isEmpty
 |_=>none
def bD(o:Option Bool):Option D:=o.map .bl
def Ae{K:KA}{G:Hp}{ds:List D}{vs:List V}(h:DenL K G ds vs):(!ds.isEmpty)= !vs.isEmpty:=by
 have q:=h.length;cases ds<;>cases vs<;>first|rfl|(simp at q)
def FA{K:KA}{G H:Hp}{d:D}{v:V}{b:Bool}(s:Same G H)(h:Arg K G H d v)(e:Ir d=some b):IZ K v H b:=by
 cases d with
 |non=>rw[h.non];cases e;rfl
 |bl i=>rw[h.bl];cases e;rfl
 |int i=>rw[h.int];cases e;rfl
 |str x=>
  rw[h.str];have e':(if x.length<=aQ then some ((x.length:Int) !=0)else none)=some b:=e
  by_cases hx:x.length<=aQ
  ·rw[aG hx]at e';cases e';exact⟨hx,rfl⟩
  ·rw[aJ hx]at e';cases e'
 |tup ds=>
  obtain⟨a,vs,rfl,q1,q2⟩:=h.tup s;cases e;exact .inr (.inl ⟨vs,q1,Ae q2⟩)
 |lst ds=>
  obtain⟨a,vs,rfl,q1,q2⟩:=h.lst s;cases e;exact .inl ⟨vs,q1,Ae q2⟩
 |dct _ _=>cases e
 |obj _ _=>cases e
 |fn _=>cases e
def Yc(ha:lx X B E a g)(he:∀whole,isTrue a X.env whole=(do let v <-whole;standAt a.pos;holding [v] (truthy v)):=by intro _;rfl):Ea X B E a (g1 (λd=>bD (Ir d)) g):=
 PT.imp (Yd ha he) λZ H Q ⟨G,U,R,q⟩=>⟨G,U,R,(ResP.bind q).mono λdx _ qx x G1 H1 e1 ax=>by
  obtain⟨d,ed,b,eb,qb⟩:=ResP.of qx;dsimp only at ed;cases et:Ir dx with
  |none=>rw[et]at ed;cases ed
  |some b'=>
   rw[et]at ed;cases ed;cases eb;exact⟨b,FA e1.gh ax et,qb G1 H1 e1⟩⟩
def Mo(c a b:En->Res):En->Res:=λU=>(c U).bind λd=>match d with
 |.bl true=>a U
 |.bl false=>b U
 |_=>.st
noncomputable def jt(c:En->Res):En->Res:=λU=>(c U).bind λd=>match d with
 |.bl b=>.ok (.bl !b)
 |_=>.st
noncomputable def nh(a b:En->Res):En->Res:=Mo a b (gC (.bl false))
noncomputable def Ad(a b:En->Res):En->Res:=Mo a (gC (.bl true)) b
def QZ{K:KA}{P:D->Prop}{c:En->Res}{U:En}{a b:En->Res}{G H:Hp}(q:ResP E G H (Mo c a b U) P):
  ResP E G H (c U) λd=>∃t,d=.bl t/\(t=true->ResP E G H (a U) P)/\(t=false->ResP E G H (b U) P):=
 (ResP.bind q).mono λd _ q=>by
  cases d with
  |bl t=>cases t with
   |true=>exact⟨true,rfl,λ_=>q,λz=>by cases z⟩
   |false=>exact⟨false,rfl,λz=>(by cases z),λ_=>q⟩
  |non=>exact q.elim
  |int _=>exact q.elim
  |str _=>exact q.elim
  |tup _=>exact q.elim
  |lst _=>exact q.elim
  |dct _ _=>exact q.elim
  |obj _ _=>exact q.elim
  |fn _=>exact q.elim
def EU(ha:Ea X B E a g):Ea X B E (.UnaryOp .Not a pos) (jt g):=PT.imp (LC ha) λZ H Q ⟨G,U,R,q⟩=>⟨G,U,R,(ResP.bind q).mono λd _ q=>by
 cases d with
 |bl t=>
  obtain⟨b,eb,qb⟩:=q;cases eb;exact⟨t,rfl,qb⟩
 |non=>exact q.elim
 |int _=>exact q.elim
 |str _=>exact q.elim
 |tup _=>exact q.elim
 |lst _=>exact q.elim
 |dct _ _=>exact q.elim
 |obj _ _=>exact q.elim
 |fn _=>exact q.elim⟩
def Yl(ha:Ea X B E a g):AY X B E (.BoolOp .And [a] pos) g:=EI ha
def EH(ha:Ea X B E a g):AY X B E (.BoolOp .Or [a] pos) g:=MH ha
def EJ{rest:List Expr}(ha:Ea X B E a g)(hb:AY X B E (.BoolOp .And (b::rest) pos) h):AY X B E (.BoolOp .And (a::b::rest) pos) (nh g h):=
 PW.imp (MJ ha hb) λZ H Q ⟨G,U,R,q⟩=>⟨G,U,R,(QZ (K:=(kx X)) q).mono λd _ ⟨t,ed,qt⟩=>⟨t,ed,λG1 H1 e1=>by
  cases t with
  |true=>exact⟨G1,U,R.ext e1,((qt.1 rfl).ext e1).mono λd _ ⟨b,eb,qb⟩=>⟨b,eb,λG2 H2 e2=>qb G2 H2 (e1.trans e2)⟩⟩
  |false=>
   obtain⟨b,eb,qb⟩:=(qt.2 rfl);cases eb;exact qb G1 H1 e1⟩⟩
def MI{rest:List Expr}(ha:Ea X B E a g)(hb:AY X B E (.BoolOp .Or (b::rest) pos) h):AY X B E (.BoolOp .Or (a::b::rest) pos) (Ad g h):=
 PW.imp (RT ha hb) λZ H Q ⟨G,U,R,q⟩=>⟨G,U,R,(QZ (K:=(kx X)) q).mono λd _ ⟨t,ed,qt⟩=>⟨t,ed,λG1 H1 e1=>by
  cases t with
  |false=>exact⟨G1,U,R.ext e1,((qt.2 rfl).ext e1).mono λd _ ⟨b,eb,qb⟩=>⟨b,eb,λG2 H2 e2=>qb G2 H2 (e1.trans e2)⟩⟩
  |true=>
   obtain⟨b,eb,qb⟩:=(qt.1 rfl);cases eb;exact qb G1 H1 e1⟩⟩
def QA(h:AY X B E e g):Ea X B E e g:=PW.pt h
def Yh{op}(h:gq X B E a g):gq X B E (.BoolOp op [a] pos) g:=LR h
def MZ{rest:List Expr}(ha:gq X B E a g)(hb:gq X B E (.BoolOp .And (b::rest) pos) h):gq X B E (.BoolOp .And (a::b::rest) pos) (nh g h):=
 PE.imp (LX ha hb) λZ H Q ⟨G,U,R,q⟩=>⟨G,U,R,(QZ (K:=(kx X)) q).mono λd _ ⟨t,ed,qt⟩ v G1 H1 e1 dn=>by
  subst ed;refine⟨t,dn,?_⟩;cases t with
  |true=>exact⟨G1,U,R.ext e1,((qt.1 rfl).ext e1).mono λd _ qb v G2 H2 e2 dn=>qb v G2 H2 (e1.trans e2) dn⟩
  |false=>exact(qt.2 rfl) _ G1 H1 e1 rfl⟩
def RU{rest:List Expr}(ha:gq X B E a g)(hb:gq X B E (.BoolOp .Or (b::rest) pos) h):gq X B E (.BoolOp .Or (a::b::rest) pos) (Ad g h):=
 PE.imp (QC ha hb) λZ H Q ⟨G,U,R,q⟩=>⟨G,U,R,(QZ (K:=(kx X)) q).mono λd _ ⟨t,ed,qt⟩ v G1 H1 e1 dn=>by
  subst ed;refine⟨t,dn,?_⟩;cases t with
  |false=>exact⟨G1,U,R.ext e1,((qt.2 rfl).ext e1).mono λd _ qb v G2 H2 e2 dn=>qb v G2 H2 (e1.trans e2) dn⟩
  |true=>exact(qt.1 rfl) _ G1 H1 e1 rfl⟩
def MO(ha:gq X B E a g):gq X B E (.UnaryOp .Not a pos) (jt g):=PE.imp (LS ha) λZ H Q ⟨G,U,R,q⟩=>⟨G,U,R,(ResP.bind q).mono λd _ q v G1 H1 e1 dn=>by
 cases d with
 |bl t=>exact⟨t,dn,q _ G1 H1 e1 rfl⟩
 |non=>exact q.elim
 |int _=>exact q.elim
 |str _=>exact q.elim
 |tup _=>exact q.elim
 |lst _=>exact q.elim
 |dct _ _=>exact q.elim
 |obj _ _=>exact q.elim
 |fn _=>exact q.elim⟩
def RW{c:Expr}(hc:Ea X B E c k)(ha:gq X B E a g)(hb:gq X B E b h):gq X B E (.IfExp c a b pos) (Mo k g h):=
 PE.imp (Lh hc ha hb) λZ H Q ⟨G,U,R,q⟩=>⟨G,U,R,(QZ (K:=(kx X)) q).mono λd _ ⟨t,ed,qt⟩=>⟨t,ed,λG1 H1 e1=>by
  cases t with
  |true=>exact⟨G1,U,R.ext e1,((qt.1 rfl).ext e1).mono λd _ qb v G2 H2 e2 dn=>qb v G2 H2 (e1.trans e2) dn⟩
  |false=>exact⟨G1,U,R.ext e1,((qt.2 rfl).ext e1).mono λd _ qb v G2 H2 e2 dn=>qb v G2 H2 (e1.trans e2) dn⟩⟩⟩
noncomputable def ai:En->ResL:=λ_=>.ok []
noncomputable def ae(g:En->Res)(r:En->ResL):En->ResL:=λU=>match g U with
 | .ok d => (match r U with
  |.ok ds=>.ok (d::ds)
  |.er c=>.er c
  |.st=>.st)
 |.er c=>.er c
 |.st=>.st
def GG(q:ResLP E G H (ae g r U) P):ResP E G H (g U) λd=>ResLP E G H (r U) λds=>P (d::ds):=by
 unfold ae at q;cases e:g U with
 |ok d=>
  rw[e]at q;cases e2:r U with
  |ok ds=>rw[e2]at q;exact q
  |er c=>rw[e2]at q;exact q
  |st=>rw[e2]at q;exact q
 |er c=>rw[e]at q;exact q
 |st=>rw[e]at q;exact q
def ji:Rm X B E [] [] ai:=PA.imp zf λZ H Q ⟨G,U,R,q⟩=>q [] G H (Ext.refl R.gh) ⟨rfl,rfl⟩
def gw(ha:lx X B E e g)(hr:Rm X B E ms es r)(hs:bE (e::es) X.env=(false,eval e X.env)::bE es X.env:=by rfl):Rm X B E (true::ms) (e::es) (ae g r):=
 PA.imp (oq ha hr hs) λZ H Q ⟨G,U,R,q⟩=>⟨G,U,R,(GG q).mono λd _ q x G1 H1 e1 ax=>⟨G1,U,R.ext e1,(q.ext e1).mono λds _ q vs G2 H2 e2 al=>
  q (x::vs) G2 H2 (e1.trans e2) ⟨d,ds,x,vs,rfl,rfl,ax.ext e2,al⟩⟩⟩
def Bo(ha:gq X B E e g)(hr:Rm X B E ms es r)(hs:bE (e::es) X.env=(false,eval e X.env)::bE es X.env:=by rfl):Rm X B E (false::ms) (e::es) (ae g r):=
 PA.imp (oq ha hr hs) λZ H Q ⟨G,U,R,q⟩=>⟨G,U,R,(GG q).mono λd _ q x G1 H1 e1 ax=>⟨G1,U,R.ext e1,(q.ext e1).mono λds _ q vs G2 H2 e2 al=>
  q (x::vs) G2 H2 (e1.trans e2) ⟨d,ds,x,vs,rfl,rfl,ax.mono e2.gg,al⟩⟩⟩
def Gi:List Bool->Bool
 |[]=>true
 |b::r=> !b && Gi r
theorem ArgsM.den{K:KA}{G H:Hp}:∀{ms:List Bool}{ds:List D}{vs:List V},Gi ms=true->ArgsM K G H ms ds vs->DenL K G ds vs
 |[],_,_,_,⟨h1,h2⟩=>by subst h1;subst h2;exact rfl
 |true::_,_,_,h,_=>by simp[Gi]at h
 |false::ms,_,_,h,⟨d,dr,v,vr,h1,h2,h3,h4⟩=>by
  subst h1;subst h2;exact⟨v,vr,rfl,h3,ArgsM.den (by simpa[Gi]using h) h4⟩
noncomputable def ia(r:En->ResL):En->Res:=λU=>match r U with
 |.ok ds=>if ds.length<=aQ then .ok (.tup ds)else .st
 |.er c=>.er c
 |.st=>.st
noncomputable def ft(r:En->ResL):En->Res:=λU=>match r U with
 |.ok ds=>if ds.length<=aQ then .ok (.lst ds)else .st
 |.er c=>.er c
 |.st=>.st
def XD(q:ResP E G H (ia r U) P):ResLP E G H (r U) λds=>ds.length<=aQ/\P (.tup ds):=by
 unfold ia at q;cases e:r U with
 |ok ds=>
  rw[e]at q
  by_cases hl:ds.length<=aQ
  ·simp only[aG hl]at q;exact⟨hl,q⟩
  ·simp only[aJ hl]at q;exact q.elim
 |er c=>rw[e]at q;exact q
 |st=>rw[e]at q;exact q
def WI(q:ResP E G H (ft r U) P):ResLP E G H (r U) λds=>ds.length<=aQ/\P (.lst ds):=by
 unfold ft at q;cases e:r U with
 |ok ds=>
  rw[e]at q
  by_cases hl:ds.length<=aQ
  ·simp only[aG hl]at q;exact⟨hl,q⟩
  ·simp only[aJ hl]at q;exact q.elim
 |er c=>rw[e]at q;exact q
 |st=>rw[e]at q;exact q
theorem DenL.upd{K:KA}{G:Hp}{p:Addr}{ds:List D}{vs:List V}(h:DenL K G ds vs)(n:G p=none)(o:HO):DenL K (upd G p o) ds vs:=h.mono (fq n o)
def gm(s:Same G H)(n:H p=none):G p=none:=by
 cases e:G p with
 |none=>rfl
 |some u=>rw[s p u e]at n;cases n
def nc{K:KA}{G H:Hp}{p:Addr}{ds:List D}{vs:List V}(s:Same G H)(n:H p=none)(h:DenL K G ds vs):Den K (upd G p (.tup vs)) (.tup ds) (.ref p):=
 ⟨p,vs,rfl,ar,h.upd (gm s n) _⟩
def sr{K:KA}{G H:Hp}{p:Addr}{ds:List D}{vs:List V}(s:Same G H)(n:H p=none)(h:DenL K G ds vs):Den K (upd G p (.lst vs)) (.lst ds) (.ref p):=
 ⟨p,vs,rfl,SqL.of ar,h.upd (gm s n) _⟩
def ML{x1}{ms:List Bool}{r:En->ResL}(hm:Gi ms=true)(h:Rm X B E ms es r):gq X B E (.Tuple es x1 pos) (ia r):=
 PE.imp (LP h) λZ H Q ⟨G,U,R,q⟩=>⟨G,U,R,(XD q).mono λds _ ⟨hl,q⟩ vs G1 H1 e1 al=>by
  have dl:=al.den hm;refine⟨by rw[<-dl.length];exact hl,λp hp=>q _ (upd G1 p (.tup vs)) _ (e1.trans (Ext.new e1.gh _ hp)) (nc e1.gh hp dl)⟩⟩
def H8{ms:List Bool}{r:En->ResL}(hm:Gi ms=true)(h:Rm X B E ms es r):Ut X B E (.List es pos) (ft r):=
 PE.imp (LV h) λZ H Q ⟨G,U,R,q⟩=>⟨G,U,R,(WI q).mono λds _ ⟨hl,ds',ed,q⟩ vs G1 H1 e1 al=>by
  cases ed;have dl:=al.den hm;refine⟨by rw[<-dl.length];exact hl,λp hp=>q p vs G1 _ (e1.trans (Ext.own e1.gh _ hp)) (gm e1.hh hp) (gm e1.gh hp) ar dl⟩⟩
def Ext.freeze{G H G' H':Hp}{a:Addr}{vs:List V}(e:Ext G H G' H')(hn:H a=none)(gn:G' a=none)(h:H' a=some (.lst vs)):Ext G H (upd G' a (.lst vs)) H':=by
 refine⟨e.gg.trans (fq gn _),e.hh,λb u q=>?_,λb u q g z=>?_⟩
 ·by_cases z:b=a
  ·subst z;rw[ar]at q;rw[h];exact q
  ·rw[ak z]at q;exact e.gh b u q
 ·rw[ak (aq q hn)];exact e.fr b u q g z
def IsL(g:En->Res):Prop:=∀U d,g U=.ok d->∃ds,d=.lst ds
def Hj:IsL (ft r):=λU d h=>by
 unfold ft at h;cases e:r U with
 |ok ds=>
  rw[e]at h
  by_cases hl:ds.length<=aQ
  ·simp only[aG hl]at h;cases h;exact⟨ds,rfl⟩
  ·simp only[aJ hl]at h;cases h
 |er c=>rw[e]at h;cases h
 |st=>rw[e]at h;cases h
def Qq(h:Ut X B E e g)(hl:IsL g):gq X B E e g:=PE.imp h λZ H Q ⟨G,U,R,q⟩=>⟨G,U,R,q.mono λd ed q=>by
 obtain⟨ds,rfl⟩:=hl U d ed;exact⟨ds,rfl,λa vs G' H' e1 hn gn hh dl=>q _ (upd G' a (.lst vs)) H' (e1.freeze hn gn hh) ⟨a,vs,rfl,SqL.of ar,dl.mono (fq gn _)⟩⟩⟩
def MS(hm:Gi ms=true)(h:Rm X B E ms es r):gq X B E (.List es pos) (ft r):=Qq (H8 hm h) Hj
end
inductive Out where
 |nx (U:En)
 |bk (U:En)
 |ct (U:En)
 |rt (d:D)
 |er (c:Str)
 |st
def OutP(K:KA)(G0 B:Hp)(E:EK)(G:Hp)(o:Out)(D:Ends):Prop:=match o with
 |.nx U=>∀σ' G' H',Same G G'->EnvR K B G' H' σ' U->Ext G0 B G' H'->D.nx σ' H'
 |.bk U=>∀σ' G' H',Same G G'->EnvR K B G' H' σ' U->Ext G0 B G' H'->D.bk σ' H'
 |.ct U=>∀σ' G' H',Same G G'->EnvR K B G' H' σ' U->Ext G0 B G' H'->D.ct σ' H'
 |.rt d=>∀v G' H',Ext G0 B G' H'->Den K G' d v->D.rt v H'
 |.er c=>∀G' H',Ext G0 B G' H'->E c H'
 |.st=>False
def SL(K:KA)(G0 B:Hp)(E:EK)(F:En->Out):TS:=λD Z H=>∃G U,EnvR K B G H Z U/\Ext G0 B G H/\OutP K G0 B E G (F U) D
abbrev u3(X:Cx)(G0 B:Hp)(E:EK)(st:Stmt)(F:En->Out):Prop:=PS X st (SL (kx X) G0 B E F)
abbrev Ar(X:Cx)(G0 B:Hp)(E:EK)(st:List Stmt)(F:En->Out):Prop:=PSs X st (SL (kx X) G0 B E F)
def PS.imp{X:Cx}{st:Stmt}{t t':TS}(h:PS X st t)(i:∀D Z H,t' D Z H->t D Z H):PS X st t':=λpins s Z H D I q=>h pins s Z H D I (i D Z H q)
def PSs.imp{X:Cx}{st:List Stmt}{t t':TS}(h:PSs X st t)(i:∀D Z H,t' D Z H->t D Z H):PSs X st t':=λpins s Z H D I q=>h pins s Z H D I (i D Z H q)
def OutP.same{K:KA}{G0 B:Hp}{E:EK}{G G1:Hp}{o:Out}{D:Ends}(s:Same G G1)(h:OutP K G0 B E G o D):OutP K G0 B E G1 o D:=by
 cases o with
 |nx U=>exact λσ' G' H' q=>h σ' G' H' (s.trans q)
 |bk U=>exact λσ' G' H' q=>h σ' G' H' (s.trans q)
 |ct U=>exact λσ' G' H' q=>h σ' G' H' (s.trans q)
 |rt d=>exact h
 |er c=>exact h
 |st=>exact h
def Res.then(r:Res)(f:D->Out):Out:=match r with
 |.ok d=>f d
 |.er c=>.er c
 |.st=>.st
def yh{K:KA}{G0 B:Hp}{E:EK}{G H:Hp}{r:Res}{f:D->Out}{D:Ends}(e:Ext G0 B G H)(h:OutP K G0 B E G (r.then f) D):ResP E G H r λd=>OutP K G0 B E G (f d) D:=by
 cases r with
 |ok d=>exact h
 |er c=>exact λG' H' q=>h G' H' (e.trans q)
 |st=>exact h
section
variable{X:Cx}{G0 B:Hp}{E:EK}{e c:Expr}{st:Stmt}{rest ss tt:List Stmt}{F F1 F2:En->Out}{g:En->Res}{pos:Pos}
noncomputable def jy:En->Out:=λU=>.nx U
noncomputable def bj(F1 F2:En->Out):En->Out:=λU=>match F1 U with
 |.nx δ'=>F2 δ'
 |o=>o
def NM:Ar X G0 B E [] jy:=PSs.imp EY λD Z H ⟨G,U,R,e,q⟩=>q Z G H (Same.refl G) R e
def XS{K:KA}{D:Ends}{Z:St}{H:Hp}(q:SL K G0 B E (bj F1 F2) D Z H):SM (SL K G0 B E F1) (SL K G0 B E F2) D Z H:=by
 obtain⟨G,U,R,e,q⟩:=q;refine⟨G,U,R,e,?_⟩;unfold bj at q;cases ef:F1 U with
 |nx δ'=>
  rw[ef]at q;exact λσ' G' H' s R' e'=>⟨G',δ',R',e',OutP.same s q⟩
 |bk δ'=>rw[ef]at q;exact q
 |ct δ'=>rw[ef]at q;exact q
 |rt d=>rw[ef]at q;exact q
 |er c=>rw[ef]at q;exact q
 |st=>rw[ef]at q;exact q
def FI(h1:u3 X G0 B E st F1)(h2:Ar X G0 B E rest F2):Ar X G0 B E (st::rest) (bj F1 F2):=PSs.imp (Ya h1 h2) λD Z H q=>XS q
def NL(h1:u3 X G0 B E st F1):Ar X G0 B E [st] F1:=EX h1
def Q2:En->Out:=λU=>.nx U
def RF{x j pos pos'}:u3 X G0 B E (.Expr (.Constant (.str x) j pos) pos') Q2:=PS.imp LH λD Z H ⟨G,U,R,e,q⟩=>q Z G H (Same.refl G) R e
noncomputable def cq(g:En->Res):En->Out:=λU=>(g U).then .rt
def RC(h:gq X B E e g):u3 X G0 B E (.Return (some e) pos) (cq g):=PS.imp (LF h) λD Z H ⟨G,U,R,e,q⟩=>⟨G,U,R,(yh e q).mono λd _ q v G' H' e1 dn=>q v G' H' (e.trans e1) dn⟩
noncomputable def t7(c:En->Res)(a b:En->Out):En->Out:=λU=>(c U).then λd=>match d with
 |.bl true=>a U
 |.bl false=>b U
 |_=>.st
def XU(hc:Ea X B E c g)(ha:Ar X G0 B E ss F1)(hb:Ar X G0 B E tt F2):u3 X G0 B E (.If c ss tt pos) (t7 g F1 F2):=
 PS.imp (QB hc ha hb) λD Z H ⟨G,U,R,e,q⟩=>⟨G,U,R,(yh e q).mono λd _ q=>by
  cases d with
  |bl t=>cases t with
   |true=>exact⟨true,rfl,λG1 H1 e1=>⟨G1,U,R.ext e1,e.trans e1,OutP.same e1.gg q⟩⟩
   |false=>exact⟨false,rfl,λG1 H1 e1=>⟨G1,U,R.ext e1,e.trans e1,OutP.same e1.gg q⟩⟩
  |non=>exact q.elim
  |int _=>exact q.elim
  |str _=>exact q.elim
  |tup _=>exact q.elim
  |lst _=>exact q.elim
  |dct _ _=>exact q.elim
  |obj _ _=>exact q.elim
  |fn _=>exact q.elim⟩
theorem EnvR.set{K:KA}{G H:Hp}{Z:St}{U:En}{i:Nat}{d:D}{v:V}(R:EnvR K B G H Z U)(h:Den K G d v):EnvR K B G H (Z.set i (some v)) (U.set i (.pu d)) where
 bh:=R.bh
 gb:=R.gb
 gh:=R.gh
 len:=by rw[cV,cV];exact R.len
 sl:=λj s q=>by
  by_cases z:i=j
  ·subst z;have hl:i<U.length:=by
    have:=(List.getElem?_eq_some_iff.mp q).1;rwa [cV]at this
   rw[bK hl]at q;cases q;exact⟨some v,bK (by rw[R.len];exact hl),v,rfl,h⟩
  ·rw[bN z]at q⊢;exact R.sl j s q
 own:=λj s a q1 q2 q3=>by
  by_cases z:i=j
  ·subst z;have hl:i<U.length:=by
    have:=(List.getElem?_eq_some_iff.mp q1).1;rwa [cV]at this
   rw[bK hl]at q1;cases q1;cases q2
  ·rw[bN z]at q1 q3;exact R.own j s a q1 q2 q3
 dis:=λj k s t a q1 q2 q3 q4 q5 q6=>by
  have hj:i≠j:=by
   rintro rfl
   have hl:i<U.length:=by
    have:=(List.getElem?_eq_some_iff.mp q1).1;rwa [cV]at this
   rw[bK hl]at q1;cases q1;cases q3
  have hk:i≠k:=by
   rintro rfl
   have hl:i<U.length:=by
    have:=(List.getElem?_eq_some_iff.mp q2).1;rwa [cV]at this
   rw[bK hl]at q2;cases q2;cases q4
  rw[bN hj]at q1 q5;rw[bN hk]at q2 q6;exact R.dis j k s t a q1 q2 q3 q4 q5 q6
noncomputable def fj(i:Nat)(g:En->Res):En->Out:=λU=>(g U).then λd=>.nx (U.set i (.pu d))
def RB{i:Nat}{x:Str}{pos':Pos}(h:gq X B E e g)(hs:PS X (.Assign [.Name x pos'] e pos) (Ua (ON (kx X) B E g) (vb i))):u3 X G0 B E (.Assign [.Name x pos'] e pos) (fj i g):=
 PS.imp hs λD Z H ⟨G,U,R,e,q⟩=>⟨G,U,R,(yh e q).mono λd _ q v G' H' e1 dn=>q _ G' H' e1.gg ((R.ext e1).set dn) (e.trans e1)⟩
def EnvR.setO{K:KA}{G H G' H':Hp}{Z:St}{U:En}{i:Nat}{ds:List D}{a:Addr}{vs:List V}(R:EnvR K B G H Z U)(e:Ext G H G' H')(hn:H a=none)(gn:G' a=none)(hh:H' a=some (.lst vs))(dl:DenL K G' ds vs):
  EnvR K B G' H' (Z.set i (some (.ref a))) (U.set i (.ow ds)):=by
 have R':=R.ext e;have bn:B a=none:=gm R.bh hn;have oth:∀(j:Nat) s,U[j]?=some s->s.own=true->Z[j]?=some (some (.ref a))->False:=λj s q1 q2 q3=>by
  obtain⟨o,z1,z2⟩:=R.sl j s q1;rw[q3]at z1;cases z1;obtain⟨a',z,u,z3,_⟩:=z2.ref q2;cases z;rw[hn]at z3;cases z3
 have at_i:∀{s:Sl},(U.set i (.ow ds))[i]?=some s->s=.ow ds/\i<U.length:=λq=>by
  have hl:i<U.length:=by
   have:=(List.getElem?_eq_some_iff.mp q).1;rwa [cV]at this
  rw[bK hl]at q;cases q;exact⟨rfl,hl⟩
 refine⟨R'.bh,R'.gh,by rw[cV,cV];exact R.len,λj s q=>?_,λj s b q1 q2 q3=>?_,λj k s t b q1 q2 q3 q4 q5 q6=>?_,R.gb⟩
 ·by_cases z:i=j
  ·subst z;obtain⟨rfl,hl⟩:=at_i q;exact⟨some (.ref a),bK (by rw[R.len];exact hl),a,vs,rfl,hh,dl⟩
  ·rw[bN z]at q⊢;exact R'.sl j s q
 ·by_cases z:i=j
  ·subst z;obtain⟨rfl,hl⟩:=at_i q1;rw[bK (by rw[R.len];exact hl)]at q3;cases q3;exact⟨gn,bn⟩
  ·rw[bN z]at q1 q3;exact R'.own j s b q1 q2 q3
 ·by_cases zj:i=j
  ·subst zj;obtain⟨rfl,hl⟩:=at_i q1;rw[bK (by rw[R.len];exact hl)]at q5;cases q5
   by_cases zk:i=k
   ·exact zk
   ·rw[bN zk]at q2 q6;exact(oth k t q2 q4 q6).elim
  ·rw[bN zj]at q1 q5
   by_cases zk:i=k
   ·subst zk;obtain⟨rfl,hl⟩:=at_i q2;rw[bK (by rw[R.len];exact hl)]at q6;cases q6;exact(oth j s q1 q3 q5).elim
   ·rw[bN zk]at q2 q6;exact R'.dis j k s t b q1 q2 q3 q4 q5 q6
def fw(i:Nat)(g:En->Res):En->Out:=λU=>(g U).then λd=>match d with
 |.lst ds=>.nx (U.set i (.ow ds))
 |_=>.st
def Yz{i:Nat}{x:Str}{pos':Pos}(h:Ut X B E e g)(hs:PS X (.Assign [.Name x pos'] e pos) (Ua (YQ (kx X) B E g) (vb i))):u3 X G0 B E (.Assign [.Name x pos'] e pos) (fw i g):=
 PS.imp hs λD Z H ⟨G,U,R,e,q⟩=>⟨G,U,R,(yh e q).mono λd _ q=>by
  cases d with
  |lst ds=>exact⟨ds,rfl,λa vs G' H' e1 hn gn hh dl=>q _ G' H' e1.gg (R.setO e1 hn gn hh dl) (e.trans e1)⟩
  |non=>exact q.elim
  |bl _=>exact q.elim
  |int _=>exact q.elim
  |str _=>exact q.elim
  |tup _=>exact q.elim
  |dct _ _=>exact q.elim
  |obj _ _=>exact q.elim
  |fn _=>exact q.elim⟩
def EnvR.wr{K:KA}{G H:Hp}{Z:St}{U:En}{i:Nat}{ds es:List D}{a:Addr}{vs ws:List V}(R:EnvR K B G H Z U)(hi:U[i]?=some (.ow ds))(hs:Z[i]?=some (some (.ref a)))(ha:H a=some (.lst vs))(dl:DenL K G es ws):
  EnvR K B G (upd H a (.lst ws)) Z (U.set i (.ow es)):=by
 obtain⟨gn,bn⟩:=R.own i _ a hi rfl hs;have hl:i<U.length:=(List.getElem?_eq_some_iff.mp hi).1;have sb:∀{F:Hp},F a=none->Same F H->Same F (upd H a (.lst ws)):=λfn s b u q=>by
  rw[ak (aq q fn)];exact s b u q
 have ownEq:∀{j:Nat}{s:Sl},(U.set i (.ow es))[j]?=some s->s.own=true->∃s',U[j]?=some s'/\s'.own=true:=λ{j s} q o=>by
  by_cases z:i=j
  ·subst z;exact⟨_,hi,rfl⟩
  ·rw[bN z]at q;exact⟨s,q,o⟩
 refine⟨sb bn R.bh,sb gn R.gh,by rw[cV];exact R.len,λj s q=>?_,λj s b q1 q2 q3=>?_,λj k s t b q1 q2 q3 q4 q5 q6=>?_,R.gb⟩
 ·by_cases z:i=j
  ·subst z;rw[bK hl]at q;cases q;exact⟨_,hs,a,ws,rfl,ar,dl⟩
  ·rw[bN z]at q;obtain⟨o,z1,z2⟩:=R.sl j s q;refine⟨o,z1,?_⟩;cases s with
   |no=>trivial
   |pu d=>exact z2
   |bo d=>exact z2
   |ow fs=>
    obtain⟨b,us,y1,y2,y3⟩:=z2;have nb:b≠a:=by
     rintro rfl
     subst y1;exact z (R.dis i j _ _ b hi q rfl rfl hs z1)
    exact⟨b,us,y1,by rw[ak nb];exact y2,y3⟩
   |od t fs=>
    cases t with
    |false=>
     obtain⟨b,us,y1,y2,y3⟩:=z2;have nb:b≠a:=by
      rintro rfl
      rw[ha]at y2;cases y2
     exact⟨b,us,y1,by rw[ak nb];exact y2,y3⟩
    |true=>
     obtain⟨b,us,y1,y2,y3⟩:=z2;have nb:b≠a:=by
      rintro rfl
      rw[ha]at y2;cases y2
     exact⟨b,us,y1,by rw[ak nb];exact y2,y3⟩
 ·obtain⟨s',z1,z2⟩:=ownEq q1 q2;exact R.own j s' b z1 z2 q3
 ·obtain⟨s',z1,z2⟩:=ownEq q1 q3;obtain⟨t',y1,y2⟩:=ownEq q2 q4;exact R.dis j k s' t' b z1 y1 z2 y2 q5 q6
def Ext.wr(e:Ext G0 B G H)(gn:G a=none)(bn:B a=none):Ext G0 B G (upd H a o):=
 ⟨e.gg,λb u q=>by rw[ak (aq q bn)];exact e.hh b u q,λb u q=>by rw[ak (aq q gn)];exact e.gh b u q,e.fr⟩
def vq:D->Option (List D)
 |.lst ds=>some ds
 |.tup ds=>some ds
 |_=>none
def turns(tg:D->En->Option En)(F:En->Out):List D->En->Out
 |[],U=>.nx U
 |d::r,U=>match tg d U with
  |none=>.st
  |some δ1=>match F δ1 with
   |.nx δ'=>turns tg F r δ'
   |.ct δ'=>turns tg F r δ'
   |.bk δ'=>.nx δ'
   |.rt d=>.rt d
   |.er c=>.er c
   |.st=>.st
end
section
variable{X:Cx}{G0 B:Hp}{E:EK}{e c tg iter:Expr}{st:Stmt}{rest ss tt:List Stmt}{F F1 F2:En->Out}{g:En->Res}{pos:Pos}
def yz(i:Nat):En->Res:=λU=>match U[i]? with
 |some (.pu d)=>.ok d
 |some (.bo d)=>.ok d
 |_=>.st
def XN(K:KA)(B:Hp)(E:EK)(g:En->Res):TE:=λZ H Q=>∃G U,EnvR K B G H Z U/\ResP E G H (g U) λd=>∀v G' H',Ext G H G' H'->Arg K G' B d v->Q v H'
abbrev GP(X:Cx)(B:Hp)(E:EK)(e:Expr)(g:En->Res):Prop:=PE X e (XN (kx X) B E g)
def IR(i:Nat)(h:PE X (.Name x pos) (Iq i)):GP X B E (.Name x pos) (yz i):=PE.imp h λZ H Q ⟨G,U,R,q⟩=>by
 unfold yz at q;cases e:U[i]? with
 |none=>rw[e]at q;exact q.elim
 |some s=>
  rw[e]at q;obtain⟨o,q1,q2⟩:=R.sl i _ e;cases s with
  |pu d=>
   obtain⟨v,q3,q4⟩:=q2;exact⟨v,by rw[q1,q3],q v G H (Ext.refl R.gh) (.inl q4)⟩
  |bo d=>
   obtain⟨v,q3,q4⟩:=q2;exact⟨v,by rw[q1,q3],q v G H (Ext.refl R.gh) q4⟩
  |no=>exact q.elim
  |ow d=>exact q.elim
  |od t d=>exact q.elim
def PN(h:gq X B E e g):GP X B E e g:=PE.imp h λZ H Q ⟨G,U,R,q⟩=>⟨G,U,R,q.mono λd _ q v G' H' x y=>q v G' H' x (.inl y)⟩
def Aq(K:KA)(J:It)(ds:List D)(S:Hp->Hp->Prop):Prop:=∀(i:Nat) G H,S G H->Same G H->
 (∀d,ds[i]?=some d->J.go i H/\∀x H',J.yld i H x H'->∃G',Ext G H G' H'/\Den K G' d x)/\(ds.length<=i->J.stop i H)
def ZY(K:KA)(B:Hp)(E:EK)(g:En->ResL):TI:=λZ H R=>∃G U,EnvR K B G H Z U/\ResLP E G H (g U) λds=>∀J G' H',Ext G H G' H'->Aq K J ds (λG2 H2=>Same G' G2/\Same B H2)->R J H'
def YA(K:KA)(B:Hp)(E:EK)(g:En->ResL):TI:=λZ H R=>∃G U,EnvR K B G H Z U/\ResLP E G H (g U) λds=>∀J G' H',Ext G H G' H'->Aq K J ds (λG2 H2=>Ext G' H' G2 H2)->R J H'
abbrev AR(X:Cx)(B:Hp)(E:EK)(tg iter:Expr)(g:En->ResL):Prop:=PI X tg iter (ZY (kx X) B E g)
abbrev Rn(X:Cx)(B:Hp)(E:EK)(tg iter:Expr)(g:En->ResL):Prop:=PI X tg iter (YA (kx X) B E g)
def PI.imp(h:PI X tg iter wi)(i:∀Z H R,wi' Z H R->wi Z H R):PI X tg iter wi':=λpins s Z H R I q=>h pins s Z H R I (i Z H R q)
def Nt{K:KA}{a:Addr}{G1:Hp}{ds:List D}{vs:List V}{S:Hp->Hp->Prop}(h:∀G H,S G H->Same G H->SqL K H a vs/\Same G1 G)(dl:DenL K G1 ds vs):Aq K (VB K a) ds S:=λi G H hS sg=>by
 obtain⟨q,g⟩:=h G H hS sg;refine⟨λd ed=>?_,λhl=>⟨vs,q,by rw[<-dl.length];exact hl⟩⟩;obtain⟨v,ev,dv⟩:=dl.get ed;refine⟨⟨vs,v,q,ev⟩,λx H' ⟨e,y⟩=>?_⟩;subst e;have z:=y vs q;rw[ev]at z;cases z;exact⟨G,Ext.refl sg,dv.mono g⟩
def Ws{K:KA}{a:Addr}{G1:Hp}{ds:List D}{vs:List V}{S:Hp->Hp->Prop}(h:∀G H,S G H->Same G H->SqT K H a vs/\Same G1 G)(dl:DenL K G1 ds vs):Aq K (VA K a) ds S:=λi G H hS sg=>by
 obtain⟨q,g⟩:=h G H hS sg;refine⟨λd ed=>?_,λhl=>⟨vs,q,by rw[<-dl.length];exact hl⟩⟩;obtain⟨v,ev,dv⟩:=dl.get ed;refine⟨⟨vs,v,q,ev⟩,λx H' ⟨e,y⟩=>?_⟩;subst e;have z:=y vs q;rw[ev]at z;cases z;exact⟨G,Ext.refl sg,dv.mono g⟩
def gz(lo:Int)(n:Nat):List D:=(aW n).map λ(i:Nat)=>.int (lo+i)
noncomputable def fx(r:En->ResL):En->ResL:=λU=>match r U with
 |.ok [.int j]=>if -(2 ^ 62)<=j/\j<2 ^ 62 then .ok (gz 0 j.toNat)else .st
 |.ok [.int i,.int j]=>if(-(2 ^ 62)<=i/\i<2 ^ 62)/\(-(2 ^ 62)<=j/\j<2 ^ 62)then .ok (gz i (j - i).toNat)else .st
 |.ok _=>.st
 |.er c=>.er c
 |.st=>.st
def JO{K:KA}{lo:Int}{n:Nat}{S:Hp->Hp->Prop}:Aq K (TN lo n) (gz lo n) S:=λi G H hS sg=>by
 refine⟨λd ed=>?_,λhl=>?_⟩
 ·unfold gz at ed;rw[bM]at ed;cases e:(aW n)[i]? with
  |none=>rw[e]at ed;cases ed
  |some j=>
   rw[e]at ed;have hi:i<n:=by
    have:=(List.getElem?_eq_some_iff.mp e).1;rwa [dN]at this
   rw[gZ hi]at e;cases e;cases ed;exact⟨hi,λx H' ⟨z,y⟩=>by subst z;exact⟨G,Ext.refl sg,y⟩⟩
 ·unfold gz at hl;rw[aO,dN]at hl;exact hl
def ArgsM.one{K:KA}{G H:Hp}{m:Bool}{d:D}{vs:List V}(h:ArgsM K G H [m] [d] vs):∃v,vs=[v]/\Arg K G H d v:=by
 obtain⟨d',dr,v,vr,h1,h2,h3,h4,h5⟩:=h;cases h1;subst h5;refine⟨v,h2,?_⟩;cases m
 ·exact .inl h3
 ·exact h3
def ME(q:ResLP E G H (fx r U) P):ResLP E G H (r U) λds=>
  (∃j,ds=[.int j]/\-(2 ^ 62)<=j/\j<2 ^ 62/\P (gz 0 j.toNat))\/∃i j,ds=[.int i,.int j]/\(-(2 ^ 62)<=i/\i<2 ^ 62/\-(2 ^ 62)<=j/\j<2 ^ 62)/\P (gz i (j - i).toNat):=by
 unfold fx at q;cases e:r U with
 |ok ds=>
  rw[e]at q;show _\/_;split at q
  ·rename_i z;cases z;split at q
   ·rename_i hc;exact .inl ⟨_,rfl,hc.1,hc.2,q⟩
   ·exact q.elim
  ·rename_i z;cases z;split at q
   ·rename_i hc;exact .inr ⟨_,_,rfl,⟨hc.1.1,hc.1.2,hc.2.1,hc.2.2⟩,q⟩
   ·exact q.elim
  ·exact q.elim
  ·rename_i z;cases z
  ·rename_i z;cases z
 |er c=>rw[e]at q;exact q
 |st=>rw[e]at q;exact q
def Qv{a:Expr}{m:Bool}{r:En->ResL}{p:Pos}(hg:Gl X "range")(hm:X.mg "range"=none)(ha:Rm X B E [m] [a] r)(hs:bE [a] X.env=[(false,eval a X.env)]:=by rfl):AR X B E tg (.Call (.Name "range" p) [a] [] pos) (fx r):=
 PI.imp (Te hg hm ha hs) λZ H R ⟨G,U,Rr,q⟩=>⟨G,U,Rr,(ME q).mono λds _ q vs G1 H1 e1 al=>by
  rcases q with ⟨j,rfl,h1,h2,q⟩|⟨i,j,rfl,_⟩
  ·obtain⟨v,rfl,av⟩:=ArgsM.one al;exact⟨j,by rw[av.int],h1,h2,q _ G1 H1 e1 JO⟩
  ·have:=al.length.1;simp at this⟩
def LL(h:AR X B E tg iter r):Rn X B E tg iter r:=PI.imp h λZ H R ⟨G,U,Rr,q⟩=>⟨G,U,Rr,q.mono λds _ q J G' H' e ok=>q J G' H' e λi G2 H2 x sg=>ok i G2 H2 ⟨x.gg,(Rr.bh.trans e.hh).trans x.hh⟩ sg⟩
structure TgOk(X:Cx)(B:Hp)(tge:Expr)(gl:TG)(tgD:D->En->Option En):Prop where
 pg:PG X tge gl
 ok:∀{G H:Hp}{Z:St}{U δ':En}{d:D}{v:V}{Q:St->Hp->Prop},EnvR (kx X) B G H Z U->Den (kx X) G d v->tgD d U=some δ'->(∀σ',EnvR (kx X) B G H σ' δ'->Q σ' H)->gl v Z H Q
def bf(i:Nat):D->En->Option En:=λd U=>some (U.set i (.pu d))
def FC(h:PG X (.Name x p) (vb i)):TgOk X B (.Name x p) (vb i) (bf i):=⟨h,λR dn e q=>by
 cases e;exact q _ (R.set dn)⟩
noncomputable def gf(tgD:D->En->Option En)(r:En->ResL)(F:En->Out):En->Out:=λU=>match r U with
 |.ok ds=>turns tgD F ds U
 |.er c=>.er c
 |.st=>.st
def WM{K:KA}{tgD:D->En->Option En}{r:En->ResL}{G H:Hp}{U:En}{D:Ends}(e:Ext G0 B G H)(q:OutP K G0 B E G (gf tgD r F U) D):ResLP E G H (r U) λds=>OutP K G0 B E G (turns tgD F ds U) D:=by
 unfold gf at q;cases er:r U with
 |ok ds=>rw[er]at q;exact q
 |er c=>rw[er]at q;exact λG' H' x=>q G' H' (e.trans x)
 |st=>rw[er]at q;exact q
def RE{gl:TG}{tgD:D->En->Option En}{r:En->ResL}(hp:pA (bH X.prog X.w) X.A X.env X.xe)(hc:X.calm=true)(hi:AR X B E tg iter r)(hg:TgOk X B tg gl tgD)(hb:Ar X G0 B E ss F)
  (hs:∀x,gQ iter X.env x=pure x:=by intro _;rfl):u3 X G0 B E (.For tg iter ss [] pos) (gf tgD r F):=
 PS.imp (LG hp hc hi hg.pg hb hs) λD Z H ⟨G,U,R,e,q⟩=>⟨G,U,R,(WM e q).mono λds _ q J G1 H1 e1 ok=>by
  refine⟨λi m Z H=>m=ds.length - i/\i<=ds.length/\∃G2 δ2,Same G1 G2/\EnvR (kx X) B G2 H Z δ2/\Ext G0 B G2 H/\OutP (kx X) G0 B E G2 (turns tgD F (ds.drop i) δ2) D,
   ⟨ds.length,by simp,bX _,G1,U,Same.refl G1,R.ext e1,e.trans e1,OutP.same e1.gg q⟩,?_⟩
  rintro i m σ2 H2 ⟨rfl,hi2,G2,δ2,s2,R2,x2,q2⟩
  obtain⟨okg,oks⟩:=ok i G2 H2 ⟨s2,R2.bh⟩ R2.gh
  by_cases hl:i<ds.length
  ·obtain⟨go,yl⟩:=okg ds[i] (by simp[hl]);rw[fK hl]at q2;refine .inr ⟨go,λσ' H'=>i+1<=ds.length/\∃G3 δ3,Same G1 G3/\EnvR (kx X) B G3 H' σ' δ3/\Ext G0 B G3 H'/\OutP (kx X) G0 B E G3 (turns tgD F (ds.drop (i+1)) δ3) D,
    λσ' H' ⟨n1,n2⟩=>⟨ds.length - (i+1),by lia,rfl,n1,n2⟩,λx H3 y=>?_⟩
   obtain⟨G3,e3,dn⟩:=yl x H3 y;unfold turns at q2;cases et:tgD ds[i] δ2 with
   |none=>rw[et]at q2;exact q2.elim
   |some δ3=>
    rw[et]at q2;dsimp only at q2;refine hg.ok (R2.ext e3) dn et λσ3 R3=>⟨G3,δ3,R3,x2.trans e3,?_⟩;have s3:Same G1 G3:=s2.trans e3.gg;cases ef:F δ3 with
    |nx δ4=>
     rw[ef]at q2;exact λσ' G' H' s R' x'=>⟨hl,G',δ4,s3.trans s,R',x',OutP.same (e3.gg.trans s) q2⟩
    |ct δ4=>
     rw[ef]at q2;exact λσ' G' H' s R' x'=>⟨hl,G',δ4,s3.trans s,R',x',OutP.same (e3.gg.trans s) q2⟩
    |bk δ4=>
     rw[ef]at q2;exact λσ' G' H' s R' x'=>q2 σ' G' H' (e3.gg.trans s) R' x'
    |rt d=>rw[ef]at q2;exact q2
    |er c=>rw[ef]at q2;exact q2
    |st=>rw[ef]at q2;exact q2
  ·have z:i=ds.length:=by lia
   subst z;rw[List.drop_length]at q2;exact .inl ⟨oks (aH _),q2 σ2 G2 H2 (Same.refl G2) R2 x2⟩⟩
def b8:List Bool->List D->En
 |_,[]=>[]
 |true::ms,d::ds=>.bo d::b8 ms ds
 |false::ms,d::ds=>.pu d::b8 ms ds
 |[],_::_=>[]
def cn:Out->Res
 |.rt d=>.ok d
 |.nx _=>.ok .non
 |.er c=>.er c
 |_=>.st
def WN(ms:List Bool)(n:Nat)(F:En->Out)(ds:List D):Res:=cn (F (b8 ms ds++aM (n - ds.length) .no))
def Ou(K:KA)(ms:List Bool)(f:List D->Res):Sp:=λvs H Q E=>vs.length=ms.length/\GOk H/\∃G ds,Same G H/\ArgsM K G H ms ds vs/\ResP (ek K E) G H (f ds) λd=>∀v G' H',Ext G H G' H'->Den K G' d v->Q v H'
theorem Fh{K:KA}{G H:Hp}:∀{ms:List Bool}{ds:List D}{vs:List V},ArgsM K G H ms ds vs->(b8 ms ds).length=vs.length
 |[],_,_,⟨h1,h2⟩=>by subst h1;subst h2;rfl
 |m::ms,_,_,⟨d,dr,v,vr,h1,h2,h3,h4⟩=>by
  subst h1;subst h2;have ih:=Fh h4;cases m<;>simp only[b8,aE,ih]
theorem pd{K:KA}{G H:Hp}:∀{ms:List Bool}{ds:List D}{vs:List V},ArgsM K G H ms ds vs->∀(i:Nat) s,(b8 ms ds)[i]?=some s->s.own=false/\∃v,vs[i]?=some v/\SlOk K H G H s (some v)
 |[],_,_,⟨h1,h2⟩,i,s,q=>by subst h1;simp[b8]at q
 |m::ms,_,_,⟨d,dr,v,vr,h1,h2,h3,h4⟩,i,s,q=>by
  subst h1;subst h2;cases i with
  |zero=>
   cases m with
   |true=>
    simp only[b8,aS,Option.some.injEq]at q;subst q;exact⟨rfl,v,rfl,v,rfl,h3⟩
   |false=>
    simp only[b8,aS,Option.some.injEq]at q;subst q;exact⟨rfl,v,rfl,v,rfl,h3⟩
  |succ i=>
   cases m with
   |true=>
    simp only[b8,aR]at q;obtain⟨q1,u,q2,q3⟩:=pd h4 i s q;exact⟨q1,u,by simpa using q2,q3⟩
   |false=>
    simp only[b8,aR]at q;obtain⟨q1,u,q2,q3⟩:=pd h4 i s q;exact⟨q1,u,by simpa using q2,q3⟩
def Nc{K:KA}{G H:Hp}{ms:List Bool}{ds:List D}{vs:List V}{N:List Str}(gb:GOk H)(s:Same G H)(al:ArgsM K G H ms ds vs):EnvR K H G H (L2.p5 N vs) (b8 ms ds++aM (N.length - ds.length) .no):=by
 have l1:=Fh al;obtain⟨l2,l3⟩:=al.length;have key:∀(i:Nat) t,(b8 ms ds++aM (N.length - ds.length) Sl.no)[i]?=some t->t=.no\/(i<vs.length/\(b8 ms ds)[i]?=some t):=λi t q=>by
  by_cases z:i<(b8 ms ds).length
  ·rw[cP z]at q;exact .inr ⟨by rw[<-l1];exact z,q⟩
  ·rw[cJ (by lia)]at q;have:=bF q;exact .inl (List.eq_of_mem_replicate this)
 refine⟨Same.refl H,s,?_,λi t q=>?_,λi t a q1 q2 q3=>?_,λi j t u a q1 q2 q3 q4 q5 q6=>?_,gb⟩
 ·unfold L2.p5;rw[aZ,aZ,aO,dE,dE,l1,l2,l3]
 ·rcases key i t q with rfl|⟨hi,qe⟩
  ·have hl:i<(L2.p5 N vs).length:=by
    have:=(List.getElem?_eq_some_iff.mp q).1;rw[aZ,dE,l1]at this;unfold L2.p5;rw[aZ,aO,dE]
    lia
   exact⟨_,bL hl,trivial⟩
  ·obtain⟨_,v,ev,ok⟩:=pd al i t qe;refine⟨some v,?_,ok⟩;unfold L2.p5;rw[cP (by rw[aO];exact hi),bM,ev];rfl
 ·rcases key i t q1 with rfl|⟨hi,qe⟩
  ·cases q2
  ·obtain⟨z,_⟩:=pd al i t qe;rw[z]at q2;cases q2
 ·rcases key i t q1 with rfl|⟨hi,qe⟩
  ·cases q3
  ·obtain⟨z,_⟩:=pd al i t qe;rw[z]at q3;cases q3
def DP{K:KA}{G H:Hp}{E:EK}{Q:VK}{o:Out}(s:Same G H)(h:ResP E G H (cn o) λd=>∀v G' H',Ext G H G' H'->Den K G' d v->Q v H'):
  OutP K G H E G o {nx:=λ_ H'=>Q .non H',rt:=Q}:=by
 cases o with
 |nx U=>exact λσ' G' H' _ _ e=>h .non G' H' e rfl
 |bk U=>exact h.elim
 |ct U=>exact h.elim
 |rt d=>exact λv G' H' e dn=>h v G' H' e dn
 |er c=>exact h
 |st=>exact h
end
section
variable{X:Cx}{B:Hp}{E:EK}{e:Expr}{es:List Expr}{pos p:Pos}{x:Str}
noncomputable def aj(f:List D->Res)(r:En->ResL):En->Res:=λU=>match r U with
 |.ok ds=>f ds
 |.er c=>.er c
 |.st=>.st
def U8(q:ResP E G H (aj f r U) P):ResLP E G H (r U) λds=>ResP E G H (f ds) P:=by
 unfold aj at q;cases e:r U with
 |ok ds=>rw[e]at q;exact q
 |er c=>rw[e]at q;exact q
 |st=>rw[e]at q;exact q
def ET{E:XK}(F:FnOk X.prog X.w X.K X.mg X.base CX k f fd ps (Ou (kx X) ms fD))(hr:Room k X.A)(hg:Gl X x)(hm:X.mg x=some (.ref f))(hk:cX X.K (.ref f)=true)
  (hb:Binds X.K fd ps [])(hx:ro CX X E)(ha:Rm X B (ek (kx X) E) ms (e::es) r)(hdb:(x==("__debug__":Str))=false:=by decide)(he:bE (e::es) X.env=(false,eval e X.env)::bE es X.env:=by rfl)(hpl:(eZ pos (bE es X.env)).any (·.1)=false:=by rfl):
  gq X B (ek (kx X) E) (.Call (.Name x p) (e::es) [] pos) (aj fD r):=
 PE.imp (DL F hr hg hm hk hb .nil hx ha hdb he hpl) λZ H Q ⟨G,U,R,q⟩=>⟨G,U,R,(U8 q).mono λds _ q vs G1 H1 e1 al=>
  ⟨by rw[cA];exact al.length.2,R.gb.same (R.bh.trans e1.hh),G1,ds,e1.gh,by rw[cA];exact al,(q.ext e1).mono λd _ q v G' H' e2 dn=>q v G' H' (e1.trans e2) dn⟩⟩
def Ye{E:XK}(F:FnOk X.prog X.w X.K X.mg X.base CX k f fd ps (Ou (kx X) [] fD))(hr:Room k X.A)(hg:Gl X x)(hm:X.mg x=some (.ref f))(hk:cX X.K (.ref f)=true)
  (hb:Binds X.K fd ps [])(hx:ro CX X E)(hdb:(x==("__debug__":Str))=false:=by decide):gq X B (ek (kx X) E) (.Call (.Name x p) [] [] pos) (λ_=>fD []):=
 PE.imp (Xr F hr hg hm hk hb .nil hx hdb) λZ H Q ⟨G,U,R,q⟩=>⟨rfl,R.gb.same R.bh,G,[],R.gh,⟨rfl,rfl⟩,q⟩
end
mutual
def fk:D->Option jI
 |.non=>some .none
 |.bl b=>some (.bool b)
 |.int i=>some (.int i)
 |.str x=>some (.str x)
 |.tup ds=>match d8 ds with
  |some ps=>some (.tuple ps)
  |none=>none
 |.lst ds=>match d8 ds with
  |some ps=>some (.list ps)
  |none=>none
 |.dct _ _=>none
 |.obj _ _=>none
 |.fn _=>none
def d8:List D->Option (List jI)
 |[]=>some []
 |d::ds=>match fk d with
  | some p => (match d8 ds with
   |some ps=>some (p::ps)
   |none=>none)
  |none=>none
end
section
variable{X:Cx}{pins:List (Addr×Obj)}{Z:St}{G H:Hp}{s:aI}
mutual
theorem x8(I:Inv X pins Z H s)(sg:Same G H):∀{d:D}{v:V}{u:aC}{p:jI},Den (kx X) G d v->RelV v u->fk d=some p->∃as,Reads s.heap u p as
 |.non,v,u,p,h,r,e=>by
  cases (show v=.non from h);cases (show u=cE from r);cases e;exact⟨_,Reads.none⟩
 |.bl b,v,u,p,h,r,e=>by
  cases (show v=.bl b from h);cases (show u=lB b from r);cases e;exact⟨_,Reads.bool b⟩
 |.int i,v,u,p,h,r,e=>by
  cases (show v=.int i from h);obtain⟨t,q⟩:=(show∃t,u=gK i t from r);cases q;cases e;exact⟨_,Reads.int i t⟩
 |.str x,v,u,p,h,r,e=>by
  cases (show v=.str x from h);obtain⟨t,q⟩:=(show∃t,u=oY x t from r);cases q;cases e;exact⟨_,Reads.str x t⟩
 |.tup ds,v,u,p,h,r,e=>by
  obtain⟨a,vs,rfl,sq,dl⟩:=h;cases (show u=cQ a from r);unfold fk at e;cases e2:d8 ds with
  |none=>rw[e2]at e;cases e
  |some ps=>
   rw[e2]at e;cases e;obtain⟨its,rv,⟨o,ho,hc,n,hd⟩,_⟩:=I.tuple (SqT.of (sg _ _ sq));obtain⟨as,ra⟩:=uv I sg dl rv e2;exact⟨as,Reads.tuple ho hc hd (by simpa using ra)⟩
 |.lst ds,v,u,p,h,r,e=>by
  obtain⟨a,vs,rfl,sq,dl⟩:=h;cases (show u=cQ a from r);unfold fk at e;cases e2:d8 ds with
  |none=>rw[e2]at e;cases e
  |some ps=>
   rw[e2]at e;cases e;obtain⟨its,rv,pl,_⟩:=I.list (SqL.mono sg sq);obtain⟨o,ho,hc,n,hd⟩:=pl.isList;obtain⟨as,ra⟩:=uv I sg dl rv e2;exact⟨_,Reads.list ho hc hd (by simpa using ra)⟩
 |.dct _ _,_,_,_,_,_,e=>by cases e
 |.obj _ _,_,_,_,_,_,e=>by cases e
 |.fn _,_,_,_,_,_,e=>by cases e
theorem uv(I:Inv X pins Z H s)(sg:Same G H):∀{ds:List D}{vs:List V}{us:List aC}{ps:List jI},DenL (kx X) G ds vs->Vals vs us->d8 ds=some ps->∃as,ReadsAll s.heap us ps as
 |[],vs,us,ps,h,r,e=>by
  cases (show vs=[]from h);cases r;cases e;exact⟨_,ReadsAll.nil⟩
 |d::ds,vs,us,ps,h,r,e=>by
  obtain⟨v,vr,rfl,dv,dl⟩:=h;cases r with
  |cons rv rr=>
   unfold d8 at e;cases e1:fk d with
   |none=>rw[e1]at e;cases e
   |some p=>
    rw[e1]at e;dsimp only at e;cases e2:d8 ds with
    |none=>rw[e2]at e;cases e
    |some ps'=>
     rw[e2]at e;cases e;obtain⟨as,ra⟩:=x8 I sg dv rv e1;obtain⟨bs,rb⟩:=uv I sg dl rr e2;exact⟨_,ReadsAll.cons ra rb⟩
end
def f7(I:Inv X pins Z H s)(sg:Same G H)(h:Arg (kx X) G H d v)(r:RelV v u)(e:fk d=some p):∃as,Reads s.heap u p as:=by
 rcases h with h|⟨ds,a,vs,rfl,rfl,sq,dl⟩|⟨t,kvs,a,rfl,_⟩
 ·exact x8 I sg h r e
 ·cases (show u=cQ a from r);unfold fk at e;cases e2:d8 ds with
  |none=>rw[e2]at e;cases e
  |some ps=>
   rw[e2]at e;cases e;obtain⟨its,rv,pl,_⟩:=I.list sq;obtain⟨o,ho,hc,n,hd⟩:=pl.isList;obtain⟨as,ra⟩:=uv I sg dl rv e2;exact⟨_,Reads.list ho hc hd (by simpa using ra)⟩
 ·cases e
end
def Sq(d e:D):Option Bool:=match fk d,fk e with
 |some p,some q=>if cZ p && cZ q then some (dB p q)else none
 |_,_=>none
def jw(d e:D):Option D:=(Sq d e).map .bl
def dh(d e:D):Option D:=(Sq d e).map λb=>.bl !b
def J8(h:Sq d e=some b):∃p q,fk d=some p/\fk e=some q/\cZ p=true/\cZ q=true/\b=dB p q:=by
 unfold Sq at h;cases e1:fk d with
 |none=>rw[e1]at h;cases h
 |some p=>
  cases e2:fk e with
  |none=>rw[e1,e2]at h;cases h
  |some q=>
   rw[e1,e2]at h;dsimp only at h
   by_cases hs:(cZ p && cZ q)=true
   ·rw[aG hs]at h;cases h;rw[aF]at hs;exact⟨p,q,rfl,rfl,hs.1,hs.2,rfl⟩
   ·rw[aJ hs]at h;cases h
section
variable{X:Cx}{B:Hp}{E:EK}{e a b:Expr}{es:List Expr}{g h:En->Res}{pos:Pos}
def EE(K:KA)(neg:Bool):R2:=λx y H Q=>∃G dx dy b,Same G H/\Arg K G H dx x/\Arg K G H dy y/\Sq dx dy=some b/\Q (.bl (if neg then !b else b)) H
def KM(hu:X.A.units+64<eL):OpR X (cF .Eq) (EE (kx X) false):=by
 intro pins s Z H x y v u Q I rx ry q;obtain⟨G,dx,dy,b,sg,ax,ay,eb,q⟩:=q;obtain⟨p,p',e1,e2,s1,s2,rfl⟩:=J8 eb;obtain⟨as,ra⟩:=f7 I sg ax rx e1;obtain⟨bs,rb⟩:=f7 I sg ay ry e2;exact eq_dataH ra rb s1 s2 hu ⟨.bl (dB p p'),H,I,rfl,q⟩
def KF(hu:X.A.units+64<eL):OpR X (cF .NotEq) (EE (kx X) true):=by
 intro pins s Z H x y v u Q I rx ry q;obtain⟨G,dx,dy,b,sg,ax,ay,eb,q⟩:=q;obtain⟨p,p',e1,e2,s1,s2,rfl⟩:=J8 eb;obtain⟨as,ra⟩:=f7 I sg ax rx e1;obtain⟨bs,rb⟩:=f7 I sg ay ry e2;exact ne_dataH ra rb s1 s2 hu ⟨.bl (!PyData.eqv p p'),H,I,rfl,q⟩
def DD{K:KA}:ib K jw (EE K false):=λG H x y dx dy d sg ax ay ed Q q=>by
 unfold jw at ed;cases e:Sq dx dy with
 |none=>rw[e]at ed;cases ed
 |some b=>rw[e]at ed;cases ed;exact⟨G,dx,dy,b,sg,ax,ay,e,q _ G H (Ext.refl sg) rfl⟩
def DA{K:KA}:ib K dh (EE K true):=λG H x y dx dy d sg ax ay ed Q q=>by
 unfold dh at ed;cases e:Sq dx dy with
 |none=>rw[e]at ed;cases ed
 |some b=>rw[e]at ed;cases ed;exact⟨G,dx,dy,b,sg,ax,ay,e,q _ G H (Ext.refl sg) rfl⟩
def Hu{o:Option Bool}{f:Bool->Bool}(h:(o.map λb=>D.bl (f b))=some d):∃b,d=.bl b:=by
 cases o with
 |none=>cases h
 |some b=>cases h;exact⟨_,rfl⟩
def Mq(f:Int->Int->Option D):D->D->Option D
 |.int i,.int j=>f i j
 |_,_=>none
def Ln:D->D->Option D:=Mq λi j=>some (.int (i - j))
def Dm:D->D->Option D:=Mq λi j=>if 0<j then some (.int (i % j))else none
def Yn:D->D->Option D:=Mq λi j=>if 0<j/\j<1073741824 then some (.int (i / j))else none
def X3{K:KA}{f:Int->Int->Option D}{C:Int->Int->Prop}{r:Int->Int->V}(hf:∀i j d,f i j=some d->C i j/\∀G,Den K G d (r i j)):ib K (Mq f) (rI C r):=λG H x y dx dy d sg ax ay ed Q q=>by
 cases dx with
 |int i=>
  cases dy with
  |int j=>
   obtain⟨c,dn⟩:=hf i j d ed;exact⟨i,j,ax.int,ay.int,c,q _ G H (Ext.refl sg) (dn G)⟩
  |_=>cases ed
 |_=>cases ed
def Q0{K:KA}{f:Int->Int->Option D}{r:Int->Int->V}(hf:∀i j d,f i j=some d->∀G,Den K G d (r i j)):ib K (Mq f) (AV r):=λG H x y dx dy d sg ax ay ed Q q=>by
 cases dx with
 |int i=>
  cases dy with
  |int j=>exact⟨i,j,ax.int,ay.int,q _ G H (Ext.refl sg) (hf i j d ed G)⟩
  |_=>cases ed
 |_=>cases ed
def MM(ha:lx X B E a g)(hb:lx X B E b h):gq X B E (.BinOp a .Sub b pos) (g2 Ln g h):=Lk KC (Q0 λi j d e G=>by cases e;rfl) ha hb
def MR(ha:lx X B E a g)(hb:lx X B E b h):gq X B E (.BinOp a .Mod b pos) (g2 Dm g h):=Lk KH (X3 λi j d e=>by
 by_cases hj:0<j
 ·rw[aG hj]at e;cases e;exact⟨hj,λ_=>rfl⟩
 ·rw[aJ hj]at e;cases e) ha hb
def ES(ha:lx X B E a g)(hb:lx X B E b h):gq X B E (.BinOp a .FloorDiv b pos) (g2 Yn g h):=Lk DU (X3 λi j d e=>by
 by_cases hj:0<j/\j<1073741824
 ·rw[aG hj]at e;cases e;exact⟨hj,λ_=>rfl⟩
 ·rw[aJ hj]at e;cases e) ha hb
def F6(f:Int->Int->Bool):D->D->Option D:=Mq λi j=>some (.bl (f i j))
def Ob:D->D->Option D:=F6 λi j=>decide (i<=j)
def MG:D->D->Option D:=F6 λi j=>decide (j<i)
def RS:D->D->Option D:=F6 λi j=>decide (j<=i)
def mf:D->D->Option D:=F6 λi j=>decide (i<j)
def xw{K:KA}{f:Int->Int->Bool}:ib K (F6 f) (AV λi j=>.bl (f i j)):=Q0 λi j d e G=>by cases e;rfl
def Gs:∀x y d,F6 f x y=some d->∃b,d=.bl b:=λx y d h=>by
 cases x<;>cases y<;>first|(cases h;exact⟨_,rfl⟩)|cases h
noncomputable def ni(f f':D->D->Option D)(g h k:En->Res):En->Res:=λU=>(g U).bind λx=>(h U).bind λy=>(Res.of (f x y)).bind λz=>match z with
 |.bl true=>(k U).bind λw=>Res.of (f' y w)
 |.bl false=>.ok (.bl false)
 |_=>.st
def Vk{K:KA}{k:En->Res}{f f':D->D->Option D}{r r':R2}(hp:ib K f r)(hp':ib K f' r'){Z:St}{H:Hp}{Q:VK}(q:ON K B E (ni f f' g h k) Z H Q):Oy r r' (NJ K B E g) (NJ K B E h) (NJ K B E k) Z H Q:=by
 obtain⟨G,U,R,q⟩:=q;refine⟨G,U,R,(ResP.bind q).mono λdx _ qx x G1 H1 e1 ax=>⟨G1,U,R.ext e1,((ResP.bind qx).ext e1).mono λdy _ qy y G2 H2 e2 ay=>?_⟩⟩;have e12:=e1.trans e2;obtain⟨d,ed,qd⟩:=ResP.of (ResP.bind qy);refine hp G2 H2 x y dx dy d e2.gh (ax.ext e2) ay ed _ λv G3 H3 e3 dn=>?_;cases d with
 |bl t=>
  refine⟨t,dn,?_⟩;cases t with
  |true=>
   show NJ K B E k Z H3 _;refine⟨G3,U,R.ext (e12.trans e3),((ResP.bind qd).ext (e12.trans e3)).mono λdw _ qw w G4 H4 e4 aw=>?_⟩;obtain⟨d',ed',qd'⟩:=ResP.of qw;exact hp' G4 H4 y w dy dw d' e4.gh ((ay.ext e3).ext e4) aw ed' Q λv G5 H5 e5 dn=>qd' v G5 H5 (((e12.trans e3).trans e4).trans e5) dn
  |false=>exact qd _ G3 H3 (e12.trans e3) rfl
 |non=>exact qd.elim
 |int _=>exact qd.elim
 |str _=>exact qd.elim
 |tup _=>exact qd.elim
 |lst _=>exact qd.elim
 |dct _ _=>exact qd.elim
 |obj _ _=>exact qd.elim
 |fn _=>exact qd.elim
def Yf(ho:OpR X (cF op) r)(hp:ib (kx X) f r)(ho':OpR X (cF op') r')(hp':ib (kx X) f' r')(ha:lx X B E a g)(hb:lx X B E b h)(hc:lx X B E c k)
  (hm:pB [op,op'] [b,c]=false:=by with_unfolding_all rfl):gq X B E (.Compare a [op,op'] [b,c] pos) (ni f f' g h k):=PE.imp (Xs ho ho' ha hb hc hm) λZ H Q q=>Vk hp hp' q
def Tn{c:Expr}{k:En->Res}{op op':CmpOp}{f f':D->D->Option D}{r r':R2}(ho:OpR X (cF op) r)(hp:ib (kx X) f r)(ho':OpR X (cF op') r')(hp':ib (kx X) f' r')(hb1:∀x y d,f' x y=some d->∃b,d=.bl b)(ha:lx X B E a g)(hb:lx X B E b h)(hc:lx X B E c k)
  (hm:pB [op,op'] [b,c]=false:=by with_unfolding_all rfl):Ea X B E (.Compare a [op,op'] [b,c] pos) (ni f f' g h k):=
 PT.imp (Yb ho ho' ha hb hc hm) λZ H Q ⟨G,U,R,q⟩=>Vk hp hp' ⟨G,U,R,q.mono λd ed ⟨b,eb,qb⟩ v G' H' e3 dn=>by
  subst eb;exact⟨b,dn,qb G' H' e3⟩⟩
noncomputable def bx:D->D->Option D
 |.int i,.int j=>some (.int (i+j))
 |.str x,.str y=>if x.length+y.length<=aQ then some (.str (x++y))else none
 |.lst xs,.lst ys=>if xs.length+ys.length<=aQ then some (.lst (xs++ys))else none
 |.tup xs,.tup ys=>if xs.length+ys.length<=aQ then some (.tup (xs++ys))else none
 |_,_=>none
def HV(K:KA):R2:=λx y H Q=>∃G dx dy d,Same G H/\Arg K G H dx x/\Arg K G H dy y/\bx dx dy=some d/\∀v G' H',Ext G H G' H'->Den K G' d v->Q v H'
def Ux{prog:bQ}{w:bZ}{A:cG}{E:aC->aI->Prop}{s:aI}{l b:Addr}{its its2:List aC}{Q:aC->aI->Prop}(hl:PlainL s.heap l its.toArray)(hb:PlainL s.heap b its2.toArray)(hz:its.length+its2.length<=aQ)
  (h:Q (.ref s.heap.objs.size) {s with heap:=s.heap.push {cls:=.type "list",data:=.seq (its++its2).toArray}}):bA (bH prog w) A (gR .Add (.ref l) (.ref b)) Q E s:=by
 obtain⟨⟨cls,dd,data,sl⟩,n,ho,c,d,q⟩:=hl;obtain⟨⟨cls2,dd2,data2,sl2⟩,n2,ho2,c2,d2,q2⟩:=hb;simp only at c d q c2 d2 q2;subst c d q c2 d2 q2;have ea:its.toArray++its2.toArray=(its++its2).toArray:=by simp
 refine oE ⟨_,ho,rfl⟩ ⟨_,ho2,rfl⟩ noFill_list_add seq_list_add PySem.F.slot_list_add PySem.F.entry_list_add (PySem.F.args_list_add_2 _ _) (list_addW l b its.toArray its2.toArray n n2 _ _ sl sl2 (by simpa using hz)) ⟨ho,ho2,?_⟩;rw[ea];exact h
def Vf{prog:bQ}{w:bZ}{A:cG}{E:aC->aI->Prop}{s:aI}{t b:Addr}{vs ws:List aC}{Q:aC->aI->Prop}(ht:IsTup s.heap t vs.toArray)(hb:IsTup s.heap b ws.toArray)(hv:vs=[])(h1:Q (.ref b) s):
  bA (bH prog w) A (gR .Add (.ref t) (.ref b)) Q E s:=by
 obtain⟨⟨cls,dd,data,sl⟩,ho,hc,n,hd⟩:=id ht;obtain⟨⟨cls2,dd2,data2,sl2⟩,ho2,hc2,n2,hd2⟩:=id hb;simp only at hc hd hc2 hd2;subst hc hd hc2 hd2;exact oE ⟨_,ho,rfl⟩ ⟨_,ho2,rfl⟩ nR seq_tuple_add kJ kB (jJ _ _)
  (tuple_addW0 t b vs.toArray ws.toArray n n2 dd dd2 sl sl2 (by simp[hv])) ⟨ho,ho2,h1⟩
def DW:OpR X (gR .Add) (HV (kx X)):=by
 intro pins s Z H x y v u Q I rx ry q;obtain⟨G,dx,dy,d,sg,ax,ay,ed,q⟩:=q;unfold bx at ed;split at ed
 ·cases ed;rw[ax.int]at rx;rw[ay.int]at ry;exact KN pins s Z H _ _ _ _ Q I rx ry ⟨_,_,rfl,rfl,q _ G H (Ext.refl sg) rfl⟩
 ·split at ed
  ·rename_i hz;cases ed;rw[ax.str]at rx;rw[ay.str]at ry;exact N6 pins s Z H _ _ _ _ Q I rx ry ⟨_,_,rfl,rfl,hz,q _ G H (Ext.refl sg) rfl⟩
  ·cases ed
 ·split at ed
  ·rename_i xs ys hz;cases ed;obtain⟨l,vs,rfl,sq,dl⟩:=ax.lst sg;obtain⟨b,ws,rfl,sq2,dl2⟩:=ay.lst sg;cases rx;cases ry;obtain⟨its,rv,pl,_⟩:=I.list sq;obtain⟨its2,rv2,pl2,_⟩:=I.list sq2;have l1:=dl.length;have l2:=dl2.length;have l3:=rv.length;have l4:=rv2.length;refine Ux pl pl2 (by lia) ⟨.ref _,_,I.lnew (t':=s.toks) (rv.append rv2) (by rw[aZ];lia),rfl,?_⟩;exact q _ (upd G s.heap.objs.size (.lst (vs++ws))) _ (Ext.new sg _ I.fresh) (sr sg I.fresh (dl.append dl2))
  ·cases ed
 ·split at ed
  ·rename_i xs ys hz;cases ed;obtain⟨l,vs,rfl,sq,dl⟩:=ax.tup sg;obtain⟨b,ws,rfl,sq2,dl2⟩:=ay.tup sg;have l1:=dl.length;have l2:=dl2.length
   by_cases hx:vs=[]
   ·cases rx;cases ry;obtain⟨its,rv,p1,_⟩:=I.tuple sq;obtain⟨its2,rv2,p2,_⟩:=I.tuple sq2;refine Vf p1 p2 (rv.nil_iff.mpr hx) ⟨.ref b,H,I,rfl,?_⟩;subst hx;have:xs=[]:=by cases xs with
     |nil=>rfl
     |cons _ _=>simp at l1
    subst this;rcases ay with ad|⟨_,_,_,z,_⟩|⟨_,_,_,z,_⟩
    ·exact q _ G H (Ext.refl sg) ad
    ·cases z
    ·cases z
   ·refine DV pins s Z H _ _ _ _ Q I rx ry ⟨l,b,vs,ws,rfl,rfl,sq,sq2,hx,by lia,λz=>?_,λz p hp=>?_⟩
    ·subst z;have:ys=[]:=by cases ys with
      |nil=>rfl
      |cons _ _=>simp at l2
     subst this;rw[cA]at q;rcases ax with ad|⟨_,_,_,z,_⟩|⟨_,_,_,z,_⟩
     ·exact q _ G H (Ext.refl sg) ad
     ·cases z
     ·cases z
    ·exact q _ (upd G p (.tup (vs++ws))) _ (Ext.new sg _ hp) (nc sg hp (dl.append dl2))
  ·cases ed
 ·cases ed
def X4{K:KA}:ib K bx (HV K):=λG H x y dx dy d sg ax ay ed Q q=>⟨G,dx,dy,d,sg,ax,ay,ed,q⟩
def LB(ha:lx X B E a g)(hb:lx X B E b h):gq X B E (.BinOp a .Add b pos) (g2 bx g h):=Lk DW X4 ha hb
theorem DenL.atI{K:KA}{G:Hp}{ds:List D}{vs:List V}{i:Int}{d:D}(dl:DenL K G ds vs)(h:atI ds i=some d):∃v,atI vs i=some v/\Den K G d v:=by
 unfold L2.atI at h⊢;rw[dl.length]at h;cases e:JN vs.length i with
 |none=>rw[e]at h;cases h
 |some j=>
  rw[e]at h;exact dl.get h
def IP{K:KA}{f:D->Option D}{rr:List V->Hp->VK->Prop}(hp:∀G H x dx d,Same G H->Arg K G H dx x->f dx=some d->∀Q:VK,(∀v G' H',Ext G H G' H'->Den K G' d v->Q v H')->rr [x] H Q){Z:St}{H:Hp}{Q:VK}(q:ON K B E (g1 f g) Z H Q):
  UX rr (XR K B E [true] (ae g ai)) Z H Q:=by
 obtain⟨G,U,R,q⟩:=q;refine⟨G,U,R,?_⟩;unfold ae;unfold g1 at q;cases e:g U with
 |ok dx=>
  rw[e]at q;obtain⟨d,ed,qd⟩:=ResP.of (show ResP E G H (Res.of (f dx)) _ from q);intro vs G1 H1 e1 al;obtain⟨v,rfl,av⟩:=ArgsM.one al;exact hp G1 H1 v dx d e1.gh av ed Q λv G' H' e2 dn=>qd v G' H' (e1.trans e2) dn
 |er c=>rw[e]at q;exact q
 |st=>rw[e]at q;exact q
noncomputable def fe:D->Option D
 |.str x=>if x.length<=aQ then some (.int x.length)else none
 |.tup ds=>some (.int ds.length)
 |.lst ds=>some (.int ds.length)
 |_=>none
def MT{p:Pos}(hg:Gl X "len")(hm:X.mg "len"=none)(ha:lx X B E e g)(he:bE [e] X.env=(false,eval e X.env)::bE [] X.env:=by rfl)(hpl:(eZ pos (bE [] X.env)).any (·.1)=false:=by rfl):gq X B E (.Call (.Name "len" p) [e] [] pos) (g1 fe g):=
 PE.imp (nu Vc hg hm PySem.boot_len (gw ha ji he) (by decide) (by decide) he hpl) λZ H Q q=>IP (λG H x dx d sg ax ed Q q=>by
  unfold fe at ed;split at ed
  ·split at ed
   ·rename_i hz;cases ed;rw[ax.str];exact⟨_,_,rfl,⟨hz,rfl⟩,q _ G H (Ext.refl sg) rfl⟩
   ·cases ed
  ·cases ed;obtain⟨l,vs,rfl,sq,dl⟩:=ax.tup sg;exact⟨_,_,rfl,.inr ⟨vs,sq,dl.length⟩,q _ G H (Ext.refl sg) rfl⟩
  ·cases ed;obtain⟨l,vs,rfl,sq,dl⟩:=ax.lst sg;exact⟨_,_,rfl,.inl ⟨vs,sq,dl.length⟩,q _ G H (Ext.refl sg) rfl⟩
  ·cases ed) q
noncomputable def GW:D->Option String
 |.non=>some "NoneType"
 |.bl _=>some "bool"
 |.int _=>some "int"
 |.str _=>some "str"
 |.tup _=>some "tuple"
 |.lst _=>some "list"
 |.dct _ _=>some "dict"
 |_=>none
def AX(t c:String):Bool:=t==c||(t=="bool" && c=="int")
def cy(c:String)(d:D):Option D:=match GW d with
 |some t=>some (.bl (AX t c))
 |none=>none
end
end Pu
end
section
namespace L2
open PySem PySem.Spec PyProof.Rows
structure Noted(fr:List Addr)(e:Addr)(h h':Heap):Prop where
 keep:∀b o,b≠e->b∉fr->h.get? b=some o->h'.get? b=some o
 slot:∀b o,b≠e->h.get? b=some o->∃sl,h'.get? b=some {o with slots:=sl}
 size:h.objs.size<=h'.objs.size
structure Rec(h:Heap)(e T:Addr)(cls:aC)(v2:Option aC):Prop where
 exc:∃oe vs,h.get? e=some oe/\oe.cls=cls/\oe.data=.fields vs/\vs[1]?=some (.ref T)/\vs[2]?=v2
 tb:∃oT ts,h.get? T=some oT/\oT.data=.fields ts/\3<ts.size
 ne:T≠e
structure Chg(fr:List Addr)(ch:Addr->Prop)(h h':Heap):Prop where
 keep:∀b o,¬ch b->b∉fr->h.get? b=some o->h'.get? b=some o
 slot:∀b o,¬ch b->h.get? b=some o->∃sl,h'.get? b=some {o with slots:=sl}
 size:h.objs.size<=h'.objs.size
def WZ(cls:aC):Prop:=∃C,C∈Pu.Cz/\cls=.ref C
structure ExAt(h0 h:Heap)(H:Hp)(a:Addr)(cls:aC):Prop where
 new:h0.get? a=none
 free:H a=none
 obj:∃oe vs,h.get? a=some oe/\oe.cls=cls/\oe.data=.fields vs/\1<vs.size/\(vs[2]?=some .none\/WZ cls)/\(vs[1]?=some .none\/∃T oT ts,vs[1]?=some (.ref T)/\h0.get? T=none/\T≠a/\H T=none/\h.get? T=some oT/\oT.data=.fields ts/\3<ts.size)
def GO(h:Heap)(a:Addr):Prop:=∃oe vs T,h.get? a=some oe/\oe.data=.fields vs/\vs[1]?=some (.ref T)
def ExAt.old{h0 h1 h:Heap}{H:Hp}{a:Addr}{cls:aC}(x:ExAt h0 h H a cls)(f:∀b,h0.get? b=none->h1.get? b=none):ExAt h1 h H a cls:=by
 obtain⟨oe,vs,he,hc,hd,hsz,hcx,htb⟩:=x.obj;exact⟨f a x.new,x.free,oe,vs,he,hc,hd,hsz,hcx,htb.imp_right λ⟨T,oT,ts,z1,z0,z⟩=>⟨T,oT,ts,z1,f T z0,z⟩⟩
section
variable{M:Model}{A:cG}{E:aC->aI->Prop}{s:aI}
def Lc
  (hfr:A.frames=some (env::outer))(hl:s.heap.FunFrames base (env::outer))(hf:env.frame=some L)(he:s.heap.get? e=some oe)(hd:oe.data=.fields vs)(hsz:1<vs.size)
  (h:∀h' T,s.heap.objs.size<=T->Noted (El (env::outer)) e s.heap h'->Rec h' e T oe.cls vs[2]?->Q () {s with heap:=h'}):
  bA M A (do let a <-frameOf env;let pl <-entryPlaceOf L nx;let b <-EntryCells.newEntry head a .none (dR L) .none pl;setField (.ref e) 1 b) Q E s:=by
 have nfr:e∉El (env::outer):=λz=>by
  obtain⟨_,u,hu,nf⟩:=hl.mem z;rw[he]at hu;cases hu;exact nf vs hd
 refine aA (wpAny_frameOf_fun hfr hl hf λh1 k1=>aA (wpAny_entryPlaceOf λpl ipl=>?_));unfold EntryCells.newEntry newFields;refine aA (cL ?_ (ipl.sizeOk5 _ _ _ _ _));have g1:h1.get? e=some oe:=(k1.2.1 e nfr).trans he;generalize hto:({cls:=gE "traceback",dict:=none,data:=.fields ([head,cQ L,cE,dR L,cE]++(if pl.isEmpty then aM 6 cE else pl)).toArray}:Obj)=tO;have g2:=aD (h:=h1) tO g1;have ne:h1.objs.size≠e:=jA (aT g1);have d3:=mK hd (·.setIfInBounds 1 (cQ h1.objs.size));have g3:=cN (eY (·.setIfInBounds 1 (cQ h1.objs.size))) g2 (Obj.isFreed_of_fields d3);have hfreed:tO.isFreed=false:=by rw[<-hto];rfl
 have t3:=(eE (h1.push tO) (eY (·.setIfInBounds 1 (cQ h1.objs.size))) (fM ne)).trans (aX h1 hfreed);have dT:∃ts,tO.data=.fields ts/\3<ts.size:=by
  rw[<-hto];exact⟨_,rfl,by simp only[bC,aZ,aE,dC]<;>lia⟩
 obtain⟨ts,dT,s3⟩:=dT;have all:∀b o,b≠e->h1.get? b=some o->((h1.push tO).update e (eY (·.setIfInBounds 1 (cQ h1.objs.size)))).get? b=some o:=λb o hb q=>by
  rw[eE _ _ (fM hb)];exact aD _ q
 refine fQ g2 hd hsz (h _ h1.objs.size (by rw[k1.1];exact aH _) ⟨λb o hb hn q=>all b o hb ((k1.2.1 b hn).trans q),λb o hb q=>?_,?_⟩ ⟨⟨_,_,g3,Obj.cls_mapFields _ _,d3,by simp[hsz],by simp⟩,⟨_,_,t3,dT,s3⟩,ne⟩)
 ·obtain⟨sl,q'⟩:=k1.2.2 b o q;exact⟨sl,all b _ hb q'⟩
 ·rw[lE,fA,k1.1];exact fZ _
def Hw{e:aC}{env env':Env}(h:env'.frame=env.frame):nV e env'=nV e env:=by
 unfold nV PySem.frameOf;rw[h]
def CC{h0:Heap}{H:Hp}{base:Heap}{env env':Env}{outer:List Env}{L a:Addr}{cls:aC}{Q:Unit->aI->Prop}
  (hfr:A.frames=some (env::outer))(hl:s.heap.FunFrames base (env::outer))(hf:env.frame=some L)(hf':env'.frame=some L)(x:ExAt h0 s.heap H a cls)(jM:∀T,s.heap.objs.size<=T->h0.get? T=none/\H T=none)
  (h:∀h' ch,(∀b,ch b->h0.get? b=none/\H b=none)->Chg (El (env::outer)) ch s.heap h'->ExAt h0 h' H a cls->GO h' a->Q () {s with heap:=h'}):bA M A (nV (.ref a) env') Q E s:=by
 rw[Hw (hf'.trans hf.symm)];obtain⟨oe,vs,he,hc,hd,hsz,hcx,htb⟩:=x.obj;unfold nV;simp only[hf];have fin:∀{h' T},s.heap.objs.size<=T->Rec h' a T oe.cls vs[2]?->ExAt h0 h' H a cls/\GO h' a:=λ{h' T} hT hR=>by
  obtain⟨⟨oe',vs',x1,x2,x3,x4,x5⟩,⟨oT,ts,y1,y2,y3⟩,hne⟩:=hR;exact⟨⟨x.new,x.free,oe',vs',x1,x2.trans hc,x3,(Array.getElem?_eq_some_iff.mp x4).1,by rw[x5];exact hcx,.inr ⟨T,oT,ts,x4,(jM T hT).1,hne,(jM T hT).2,y1,y2,y3⟩⟩,oe',vs',T,x1,x3,x4⟩
 rcases htb with h1|⟨T,oT,ts,h1,hn0,hne,hHT,hT,hdT,h3⟩
 ·refine aA (iW he hd h1 ?_);rw[aJ (by decide)];exact Lc hfr hl hf he hd hsz λh' T q b c=>h h' (λb=>b=a) (λb z=>z▸⟨x.new,x.free⟩) ⟨λb' o q r z=>b.keep b' o q r z,λb' o q z=>b.slot b' o q z,b.size⟩ (fin q c).1 (fin q c).2
 ·refine aA (iW he hd h1 ?_);rw[aG (show(cQ T !=cE)=true by simp)];refine aA (iW hT hdT (bP h3) ?_)
  by_cases q3:(ts[3]==dR L)=true
  ·rw[aG q3];exact aB (h s.heap (λ_=>False) (λ_ z=>z.elim) ⟨λb o _ _ q=>q,λb o _ q=>⟨o.slots,q⟩,aH _⟩ x ⟨oe,vs,T,he,hd,h1⟩)
  ·rw[aJ q3];refine aA (fQ hT hdT h3 ?_);have oth:∀b,b≠T->(s.heap.update T (eY (·.setIfInBounds 3 cE))).get? b=s.heap.get? b:=λb hb=>eE _ _ (fM hb);have hrec:∀b o,s.heap.get? b=some o->(∀vs,o.data≠.fields vs)->b≠T:=λb o q nf z=>by rw[z,hT]at q;cases q;exact nf ts hdT
   have sz:(s.heap.update T (eY (·.setIfInBounds 3 cE))).objs.size=s.heap.objs.size:=lE ..;refine Lc hfr (hl.of_keeps λb o q nf=>⟨o,(oth b (hrec b o q nf)).trans q,rfl⟩) hf ((oth a (fM hne)).trans he) hd hsz λh' T' q b c=>h h' (λb=>b=a\/b=T) (λb z=>?_) ⟨λb' o q z w=>b.keep b' o (λy=>q (.inl y)) z ((oth b' λy=>q (.inr y)).trans w),λb' o q w=>b.slot b' o (λy=>q (.inl y)) ((oth b' λy=>q (.inr y)).trans w),cB (eQ sz.symm) b.size⟩ (fin (cB (eQ sz.symm) q) c).1 (fin (cB (eQ sz.symm) q) c).2;rcases z with rfl|rfl
   ·exact⟨x.new,x.free⟩
   ·exact⟨hn0,hHT⟩
def JY{h0:Heap}{H:Hp}{a:Addr}{cls:aC}{fo:Option Addr}{fr:List Addr}{Q:Unit->aI->Prop}(x:ExAt h0 s.heap H a cls)
  (h:∀h' ch,(∀b,ch b->h0.get? b=none/\H b=none)->Chg fr ch s.heap h'->ExAt h0 h' H a cls->Q () {s with heap:=h'}):bA M A (setFlight (.ref a) fo) Q E s:=by
 obtain⟨oe,vs,he,hc,hd,hsz,hcx,htb⟩:=x.obj;unfold setFlight;rcases htb with h1|⟨T,oT,ts,h1,hn0,hne,hHT,hT,hdT,h3⟩
 ·refine aA (iW he hd h1 ?_);rw[aJ (by decide)];exact aB (h s.heap (λ_=>False) (λ_ z=>z.elim) ⟨λb o _ _ q=>q,λb o _ q=>⟨o.slots,q⟩,aH _⟩ x)
 ·refine aA (iW he hd h1 ?_);rw[aG (show(cQ T !=cE)=true by simp)];refine fQ hT hdT h3 (h _ (λb=>b=T) (λb z=>z▸⟨hn0,hHT⟩) ⟨λb o hb _ q=>?_,λb o hb q=>⟨o.slots,?_⟩,eQ (lE ..).symm⟩ ⟨x.new,x.free,oe,vs,?_,hc,hd,hsz,hcx,.inr ⟨T,_,_,h1,hn0,hne,hHT,cN _ hT (Obj.isFreed_of_fields (mK hdT _)),mK hdT _,by simp[h3]⟩⟩)
  ·rw[eE _ _ (fM hb)];exact q
  ·rw[eE _ _ (fM hb)];exact q
  ·rw[eE _ _ hne];exact he
end
section
variable{X:Cx}{pins:List (Addr×Obj)}{Z:St}{H:Hp}{s:aI}
def Inv.noted(J:Inv X pins Z H s){h':Heap}(ch:Addr->Prop)(hch:∀b,ch b->X.s₀.heap.get? b=none/\H b=none/\b≠X.env.locals/\(∀x c,X.env.cells.lookup x=some c->c≠b)/\∀p∈X.pn++pins,p.1≠b)
  (k1:∀b o,¬ch b->b∉El X.stack->s.heap.get? b=some o->h'.get? b=some o)(k2:∀b o,¬ch b->s.heap.get? b=some o->∃sl,h'.get? b=some {o with slots:=sl}):Inv X pins Z H {s with heap:=h'}:=by
 have nch:∀b o,X.s₀.heap.get? b=some o->¬ch b:=λb o e z=>by rw[(hch b z).1]at e;cases e
 have ja:∀b,b≠X.env.locals->b∉X.fs->b∉El X.stack:=λb h1 h2 z=>(List.mem_cons.mp (J.stkSub b z)).elim h1 h2;have neL:∀b o,X.s₀.heap.get? b=some o->b≠X.env.locals:=λb o e=>bJ (bI (aT e) J.ok.above);have cellK:∀x c,X.env.cells.lookup x=some c->∀v,s.heap.IsCell c v->h'.IsCell c v:=λx c e v ⟨o,ho,hd⟩=>by
  obtain⟨sl,q⟩:=k2 c o (λz=>(hch c z).2.2.2.1 x c e rfl) ho;exact⟨_,q,hd⟩
 refine⟨J.ok,J.os,J.bare,⟨λb o e n hb hx=>?_,λb o e n hb hx=>?_,J.base.free,λb o e hx=>?_,J.base.tups,J.base.frzs,J.base.tbls⟩,?_,λx c e=>?_,J.free,J.freeC,λp hp=>?_,λb o q=>?_,J.len⟩
 ·exact k1 b o (nch b o e) (ja b (neL b o e) hb) (J.base.keep b o e n hb hx)
 ·obtain⟨sl,e1⟩:=J.base.slot b o e n hb hx;obtain⟨sl',e2⟩:=k2 b _ (nch b o e) e1;exact⟨sl',e2⟩
 ·obtain⟨o',e1⟩:=J.base.there b o e hx;obtain⟨sl,e2⟩:=k2 b o' (nch b o e) e1;exact⟨_,e2⟩
 ·obtain⟨m,⟨o,es,ep,ho,r⟩,hl⟩:=J.loc;obtain⟨sl,q⟩:=k2 X.env.locals o (λz=>(hch _ z).2.2.1 rfl) ho;refine⟨m,⟨_,es,ep,q,r⟩,λi x v e1 e2 e3=>?_⟩;obtain⟨u,rv,l⟩:=hl i x v e1 e2 e3;refine⟨u,rv,?_⟩;rcases l with l|⟨k,c,e,z⟩
  ·exact .inl l
  ·exact .inr ⟨k,c,e,cellK x c e _ z⟩
 ·obtain⟨v,z⟩:=J.cell x c e;exact⟨v,cellK x c e v z⟩
 ·obtain⟨a1,a2,a3,a4,a5⟩:=J.pin p hp;exact⟨k1 p.1 p.2 (λz=>(hch _ z).2.2.2.2 p hp rfl) (ja _ a3 a4) a1,a2,a3,a4,a5⟩
 ·refine(J.hok b o q).stay (λc u hc r=>?_) (λ_ z=>z) λ_ _ z=>z;have tr:∃v,H c=some v:=by
   rcases hc with rfl|hc
   ·exact⟨o,q⟩
   ·exact⟨_,hc⟩
  obtain⟨v,tr⟩:=tr;refine k1 c u (λz=>?_) (λz=>?_) r
  ·rw[(hch c z).2.1]at tr;cases tr
  ·rw[J.stkFree c z]at tr;cases tr
def Inv.young{H1:Hp}{s1:aI}(I:Inv X pins Z H1 s1)(hx:X.ex=[]){b:Addr}(z:s1.heap.get? b=none):X.s₀.heap.get? b=none/\b≠X.env.locals/\(∀x c,X.env.cells.lookup x=some c->c≠b)/\∀p∈X.pn++pins,p.1≠b:=by
 refine⟨?_,?_,λx c e y=>?_,λp hp y=>?_⟩
 ·cases r:X.s₀.heap.get? b with
  |none=>rfl
  |some o=>
   obtain⟨o',r'⟩:=I.base.there b o r (by rw[hx];simp);rw[z]at r';cases r'
 ·rintro rfl
  obtain⟨m,⟨o,es,ep,ho,r⟩,hl⟩:=I.loc;rw[z]at ho;cases ho
 ·subst y;obtain⟨v,o,ho,_⟩:=I.cell x c e;rw[z]at ho;cases ho
 ·subst y;rw[(I.pin p hp).1]at z;cases z
end
def Ld{h:Heap}(x:ObjOk P w H h a o):∃u,h.get? a=some u:=by
 cases o with
 |lst xs=>obtain⟨_,_,_,_,e⟩:=x;exact⟨_,e⟩
 |tup xs=>obtain⟨_,_,_,u,e,_⟩:=x;exact⟨_,e⟩
 |dK kvs=>obtain⟨_,_,_,_,o,_,_,e,_⟩:=x;exact⟨_,e⟩
 |dT kvs=>obtain⟨_,_,_,_,o,_,_,e,_⟩:=x;exact⟨_,e⟩
 |set S n=>obtain⟨o,_,_,_,e,_⟩:=x;exact⟨_,e⟩
 |ins C dx fs=>obtain⟨_,_,_,e,_⟩:=x;exact⟨_,e⟩
 |own y=>exact x
 |xd fs=>obtain⟨_,⟨_,_,_,e,_⟩,_⟩:=x;exact⟨_,e⟩
 |rng lo hi=>obtain⟨_,_,_,e⟩:=x;exact⟨_,e⟩
 |frz ob u=>obtain⟨e,_⟩:=x;exact⟨_,e⟩
 |tbl q=>obtain⟨ps,e,_⟩:=x;exact⟨_,e⟩
 |met f y=>exact⟨_,x⟩
 |ext φ=>obtain⟨_,e,_⟩:=x;exact e
def Wl{h:Heap}(x:HOk P w H h)(e:h.get? a=none):H a=none:=by
 cases q:H a with
 |none=>rfl
 |some o=>
  obtain⟨u,z⟩:=Ld (x a o q);rw[e]at z;cases z
def Ew(P:bQ)(w:bZ):AZ:=λouter H s E e s'=>∃a cls H',e=.ref a/\s'.os=s.os/\mC s'.gens/\Un (El outer) [] H H' s.heap s'.heap/\HOk P w H' s'.heap/\ExAt s.heap s'.heap H' a cls/\E cls none H'
def Acc(X:Cx)(E:XK):Prop:=∀(pins:List (Addr×Obj))(Z:St)(H1:Hp)(s1:aI)(H:Hp)(s:aI)(a:Addr)(cls:aC),Inv X pins Z H1 s1->Inv X pins Z H s->(∀T,s.heap.objs.size<=T->s1.heap.get? T=none)->ExAt s1.heap s.heap H a cls->E cls none H->X.xe (.ref a) s
def Acc.goes{X:Cx}{E:XK}(A:Acc X E):ro (Ew X.prog X.w) X E:=λpins Z H s e s' I c=>by
 obtain⟨a,cls,H',rfl,os,bare,un,hok,ex,q⟩:=c;refine A pins Z H s H' s' a cls I (I.call' os un hok bare (λb z=>absurd z (by simp))) (λT hT=>?_) ex q;cases r:s.heap.get? T with
 |none=>rfl
 |some o=>
  obtain⟨o',r'⟩:=un.there T o r (by simp);exact absurd (bI (aT r') hT) (cI _)
def wq{X:Cx}:Acc X E0:=λ_ _ _ _ _ _ _ _ _ _ _ _ q=>q.elim
def Inv.chg{X:Cx}{pins:List (Addr×Obj)}{Z:St}{H1 H:Hp}{s1 s:aI}{h':Heap}{ch:Addr->Prop}(hx:X.ex=[])(I:Inv X pins Z H1 s1)(J:Inv X pins Z H s)(n:∀b,ch b->s1.heap.get? b=none/\H b=none)(c:Chg (El X.stack) ch s.heap h'):Inv X pins Z H {s with heap:=h'}:=
 J.noted ch (λb hb=>have y:=I.young hx (n b hb).1;⟨y.1,(n b hb).2,y.2⟩) c.keep c.slot
def Jc{P:bQ}{w:bZ}{K:aU}{mg:Str->Option aC}{base:Heap}{N:List Str}{qual:Str}{scope:eI}{f:Addr}{cd:aC}{A:cG}{outer:List Env}{s₀:aI}{H₀:Hp}{E:XK}:
  Acc (Au (Ew P w) P w K mg base N qual scope f cd A outer s₀ H₀ E) E:=λpins Z H1 s1 H s a cls I J th ex q=>by
 show bA _ _ (leaving _ (.ref a)) _ _ _;unfold leaving;refine aA (CC J.ok.frames J.stack rfl rfl ex (λT hT=>⟨th T hT,J.hok.fresh hT⟩) λh1 ch1 n1 c1 x1 _=>JY (fr:=El (Au (Ew P w) P w K mg base N qual scope f cd A outer s₀ H₀ E).stack) x1 λh2 ch2 n2 c2 x2=>?_);have J1:=Inv.chg rfl I J n1 c1;have J2:=Inv.chg (h':=h2) rfl I J1 n2 c2;exact⟨a,cls,H,rfl,J2.os,J2.bare,J2.base,J2.hok,x2.old λb z=>(I.young rfl z).1,q⟩
end L2
end
section
namespace Pu
open PySem PySem.Spec PyProof.Rows L2
def uq(h:a<b):a≠b+1:=by lia
def TJ{a b n:Nat}(h:b<n)(e:a=n+2)(z:a=b):False:=by lia
def YU{a n:Nat}(e:a=n+2):a≠n/\n<=a:=by lia
def Xb:b+1≠b:=by lia
instance:Inhabited D:=⟨.non⟩
def Gu(I:Nat->aI->Prop)
   (turn:∀n s,I n s->bA (bH prog w) A (jV it) (λr s₁=>match r with
   |none=>R (.ok .next) s₁
   |some v=>bA (bH prog w) A (lU target it v) (λ_ s₁=>bA (bH prog w) A (assign target env v) (λ_ s₂=>
     bA (bH prog w) A (forIn ifs true λc r=>if r=true then do let ok <-isTrue c env (eval c env);pure (lV ok)else pure (lV r)) (λok s₃=>
      if ok=true then bA (bH prog w) A (eval elt env) (λx s₄=>
       bA (bH prog w) A (call (.builtin "list.append") [acc,x]) (λ_ s₅=>∃m,m<n/\I m s₅) (mD (bH prog w) A env λe s'=>R (.error e) s') s₄) (mD (bH prog w) A env λe s'=>R (.error e) s') s₃
      else∃m,m<n/\I m s₃) (mD (bH prog w) A env λe s'=>R (.error e) s') s₂) (mD (bH prog w) A env λe s'=>R (.error e) s') s₁) (mD (bH prog w) A env λe s'=>R (.error e) s') s₁) (mD (bH prog w) A env λe s'=>R (.error e) s') s)
  (n:Nat) (h:I n s):
  iO (bH prog w) A (.compLoop (.ListComp elt [⟨target,iter,ifs,0⟩] scope pos) 0 it acc env) R s:=by
 refine codeAny_loop rfl I (λn s hI=>?_) n h;show bA _ A ((compTurn (.ListComp elt [⟨target,iter,ifs,0⟩] scope pos) 0 it acc env).onRaise (λx=>do nV x env;theTreesLotGoes x)) _ _ s;refine wpAny_noted ?_;rw[compTurn_list];refine aA (wpAny_standAt (aA (bU (turn n s hI) (λr s₁ h₁=>?_) λ_ _ h'=>h')));cases r with
 |none=>exact aB h₁
 |some v=>
  refine aA (bU h₁ (λ_ s₁' h₁=>?_) λ_ _ h'=>h');refine aA (bU h₁ (λ_ s₂ h₂=>aA (bU h₂ (λok s₃ h₃=>?_) λ_ _ h'=>h')) λ_ _ h'=>h');cases ok with
  |false=>exact aB ⟨rfl,h₃⟩
  |true=>
   exact aA (aA (bU h₃ (λx s₄ h₄=>aA (bU h₄ (λ_ s₅ h₅=>aB (aB ⟨rfl,h₅⟩)) λ_ _ h'=>h')) λ_ _ h'=>h'))
noncomputable def i8(env:Env):List (Str×fP)->List (Str×Addr)->Option (List (Str×Addr))
 |[],cs=>some cs
 | (n, k) :: r, cs => if k = .free then (match env.cells.lookup n with
  |some c=>i8 env r ((n,c)::cs)
  |none=>none)else i8 env r cs
theorem yr(env:Env):∀(names:List (Str×fP))(cs cl:List (Str×Addr)),i8 env names cs=some cl->
  (forIn names cs λx (c:List (Str×Addr))=>(if(x.2==cR)=true then do let a <-cellOf env x.1;pure (lV ((x.1,a)::c))else pure (lV c):Sem _))=pure cl
 |[],cs,cl,h=>by cases h;rfl
 |(n,k)::r,cs,cl,h=>by
  unfold i8 at h;rw[List.forIn_cons]
  by_cases hk:k=.free
  ·subst hk;simp only[if_true]at h;cases hc:env.cells.lookup n with
   |none=>rw[hc]at h;cases h
   |some c=>
    rw[hc]at h;have:cellOf env n=pure c:=by unfold cellOf;rw[hc]
    simp only[beq_self_eq_true,if_true,this,pure_bind];exact yr env r _ cl h
  ·rw[aJ hk]at h;have hb:(k==cR)=false:=by simpa using hk
   simp only[hb,Bool.false_eq_true,if_false,pure_bind];exact yr env r _ cl h
def kg{scope:eI}(h:i8 env scope.names []=some cl):closureFor scope env=pure cl:=by
 have q:=yr env scope.names [] cl h;unfold closureFor;exact(congrArg (λt=>t>>=λcs=>pure cs) q).trans (pure_bind _ _)
theorem qc(env:Env):∀(names:List (Str×fP))(cs cl:List (Str×Addr)),i8 env names cs=some cl->(∀p∈cs,env.cells.lookup p.1=some p.2)->∀p∈cl,env.cells.lookup p.1=some p.2
 |[],cs,cl,h,q=>by cases h;exact q
 |(n,k)::r,cs,cl,h,q=>by
  unfold i8 at h
  by_cases hk:k=.free
  ·subst hk;simp only[if_true]at h;cases hc:env.cells.lookup n with
   |none=>rw[hc]at h;cases h
   |some c=>
    rw[hc]at h;refine qc env r _ cl h λp hp=>?_;rcases List.mem_cons.mp hp with rfl|hp
    ·exact hc
    ·exact q p hp
  ·rw[aJ hk]at h;exact qc env r _ cl h q
theorem iv:∀{l:List (Str×β)}{x:Str}{c:β},l.lookup x=some c->(x,c)∈l
 |[],_,_,h=>by simp at h
 |(n,b)::r,x,c,h=>by
  rw[eF]at h
  by_cases e:x=n
  ·subst e;simp only[beq_self_eq_true]at h;cases h;exact aN
  ·have hb:(x==n)=false:=by simpa using e
   rw[hb]at h;exact aK _ (iv h)
def Mn(own:List Str)(c:Addr)(cl:List (Str×Addr)):List (Str×Addr):=match own with
 |[]=>cl
 |x::_=>(x,c)::cl
def m6{own:List Str}{c d:Addr}{cl:List (Str×Addr)}{y:Str}(h:(Mn own c cl).lookup y=some d):cl.lookup y=some d\/(y∈own/\@Eq Nat d c):=by
 cases own with
 |nil=>exact .inl h
 |cons x r=>
  have h:((x,c)::cl).lookup y=some d:=h;rw[eF]at h
  by_cases e:y=x
  ·subst e;simp only[beq_self_eq_true]at h;cases h;exact .inr ⟨aN,rfl⟩
  ·have hb:(y==x)=false:=by simpa using e
   rw[hb]at h;exact .inl h
def Vp{own:List Str}{c:Addr}{cl:List (Str×Addr)}{y:Str}(h:y∉own):(Mn own c cl).lookup y=cl.lookup y:=by
 cases own with
 |nil=>rfl
 |cons x r=>
  have hb:(y==x)=false:=beq_eq_false_iff_ne.mpr λz=>h (z▸aN);show((x,c)::cl).lookup y=_;rw[eF,hb]
def Pv{own:List Str}{c:Addr}{cl:List (Str×Addr)}{y:Str}(h1:own.length<=1)(h:y∈own):(Mn own c cl).lookup y=some c:=by
 match own,h1,h with
 |[x],_,h=>
  rw[List.mem_singleton.mp h];show((x,c)::cl).lookup x=_;simp
theorem qa:∀(names:List (Str×fP))(a:Addr)(acc:List (Str×Addr)),kA a names acc=kA a (names.filter λy=>y.2==.cell) acc
 |[],_,_=>rfl
 |(n,k)::r,a,acc=>by
  rw[eH]
  by_cases hk:(k==eA)=true
  ·rw[aG hk];unfold kA;rw[aG hk,aG hk];exact qa r _ _
  ·rw[aJ hk]
   conv=>lhs;unfold kA
   rw[aJ hk];exact qa r _ _
theorem t5:∀(names:List (Str×fP))(h:Heap),pE h names=pE h (names.filter λy=>y.2==.cell)
 |[],_=>rfl
 |(n,k)::r,h=>by
  rw[eH]
  by_cases hk:(k==eA)=true
  ·rw[aG hk];unfold pE;rw[aG hk,aG hk];exact t5 r _
  ·rw[aJ hk]
   conv=>lhs;unfold pE
   rw[aJ hk];exact t5 r _
def Z9{M:Model}{A:cG}{E:aC->aI->Prop}{s:aI}{scope:eI}{g:Addr}{cl:List (Str×Addr)}{q:Str}{env:Env}{own:List Str}{Q:Env->aI->Prop}(hc:(scope.names.filter λy=>y.2==.cell)=own.map λx=>(x,eA))(ho:own.length<=1)
  (h:∀h',h'.Ns s.heap.objs.size (λ_=>none)->(∀b o,s.heap.get? b=some o->h'.get? b=some o)->(∀x∈own,h'.IsCell (s.heap.objs.size+1) none)->Q (newEnv scope s.heap.objs.size g (Mn own (s.heap.objs.size+1) cl) q none .none (some env) jU) {s with heap:=h'}):
  bA M A (newFunctionEnv scope g cl [] q none .none (some env)) Q E s:=by
 simp only[newFunctionEnv,Option.isSome_some,if_true];refine aA (wpAny_alloc ?_);refine aA (wpAny_layCells _ (λname kind cells=>by cases hkc:kind==eA<;>simp[hkc]) _ _ _ _ ?_);rw[List.forIn_nil];rw[show({s with heap:=s.heap.push {cls:=.type "dict",data:=.dict #[]}}:aI).heap.objs.size=s.heap.objs.size+1 from fA ..,qa,t5,hc];refine aA (aB (aB ?_));have key:=h (pE (s.heap.push {cls:=.type "dict",data:=.dict #[]}) (own.map λx=>(x,eA))) ((Heap.Ns.new s.heap (.type "dict")).keeps (pushCells_keeps _ _)) (λb o e=>pushCells_keeps _ _ b o (aD _ e))
 match own,ho with
 |[],_=>exact key λx hx=>by cases hx
 |[x],_=>exact key λ_ _=>⟨_,by
   show((s.heap.push {cls:=.type "dict",data:=.dict #[]}).push {cls:=.type "cell",data:=.cell none}).get? _=_;rw[show s.heap.objs.size+1=(s.heap.push {cls:=.type "dict",data:=.dict #[]}).objs.size from(fA ..).symm];exact aX _ rfl,rfl⟩
def YX(X:Cx)(scope:eI)(cl:List (Str×Addr))(C:Addr):aC->aI->Prop:=mD (bH X.prog X.w) X.A (compEnvC scope cl C X.env) λe s'=>∃m,s'.heap.Ns C m/\∀h',cK C s'.heap h'->∀cenv:Env,cenv.locals=C->bA (bH X.prog X.w) X.A (PySem.passOn "comprehension.variables-let-go" e cenv:Sem aC) (λ_ _=>False) X.xe {s' with heap:=h'}
noncomputable def ip(X:Cx)(scope:eI)(cl:List (Str×Addr))(N:List Str)(xs:List Str)(C:Addr)(s₀:aI)(H₀:Hp)(ex:List Addr)(pn:List (Addr×Obj)):Cx where
 prog:=X.prog
 w:=X.w
 K:=(kx X)
 mg:=X.mg
 base:=X.base
 A:=X.A
 N:=N
 s₀:=s₀
 H₀:=H₀
 env:=compEnvC scope cl C X.env
 outer:=X.stack
 stack:=X.stack
 ex:=ex
 fn:=λy=>decide (y∈xs)
 calm:=X.calm
 pn:=pn
 xe:=YX X scope cl C
structure CapOk(X:Cx)(scope:eI)(cl:List (Str×Addr))(y:Str)(i:Nat):Prop where
 at_:X.N[i]?=some y
 vis:PV X.env.scope y
 nloc:X.env.kindOf y≠some .local
 cell:∃c,cl.lookup y=some c
 kind:(lI scope X.env).names.lookup y=some .cell\/(lI scope X.env).names.lookup y=some .free
def Caps(X:Cx)(scope:eI)(cl:List (Str×Addr)):List Str->List Nat->Prop
 |[],ix=>ix=[]
 |y::M,ix=>∃i r,ix=i::r/\CapOk X scope cl y i/\Caps X scope cl M r
theorem Caps.get:∀{M:List Str}{ix:List Nat},Caps X scope cl M ix->∀(j:Nat) y,M[j]?=some y->∃i,ix[j]?=some i/\CapOk X scope cl y i
 |[],_,_,j,y,h=>by simp at h
 |_::_,_,⟨i,r,h1,h2,h3⟩,0,y,h=>by
  simp at h;subst h;subst h1;exact⟨i,rfl,h2⟩
 |_::_,_,⟨i,r,h1,h2,h3⟩,j+1,y,h=>by
  subst h1;obtain⟨k,q1,q2⟩:=Caps.get h3 j y (by simpa using h);exact⟨k,by simpa using q1,q2⟩
theorem Caps.length:∀{M:List Str}{ix:List Nat},Caps X scope cl M ix->M.length=ix.length
 |[],_,h=>by rw[show _=[]from h];rfl
 |_::_,_,⟨i,r,h1,h2,h3⟩=>by rw[h1,aE,aE,Caps.length h3]
structure CompOk(X:Cx)(scope:eI)(cl:List (Str×Addr))(own xs:List Str)(M:List Str)(ix:List Nat):Prop where
 clos:i8 X.env scope.names []=some cl
 kind:scope.kind=.function
 ocell:(scope.names.filter λy=>y.2==.cell)=own.map λx=>(x,eA)
 own1:own.length<=1
 osub:∀x∈own,x∈xs
 names:∀y∈scope.names,y.2=.local->scope.names.lookup y.1=some .local
 loc:∀x∈xs,Us scope x
 xcl:∀x∈xs,cl.lookup x=none
 nd:(xs++M).Nodup
 ixd:ix.Nodup
 cap:Caps X scope cl M ix
section
variable{X:Cx}{scope:eI}{cl:List (Str×Addr)}{own xs:List Str}{M:List Str}{ix:List Nat}{pins:List (Addr×Obj)}{Z:St}{H:Hp}{s:aI}{fp:List Addr}
theorem km(env:Env):∀(names:List (Str×fP))(cs cl:List (Str×Addr)),i8 env names cs=some cl->∀y,((∃c,cs.lookup y=some c)\/(y,cR)∈names)->∃c,cl.lookup y=some c
 |[],cs,cl,h,y,q=>by
  cases h;rcases q with q|q
  ·exact q
  ·simp at q
 |(n,k)::r,cs,cl,h,y,q=>by
  unfold i8 at h
  by_cases hk:k=.free
  ·subst hk;simp only[if_true]at h;cases hc:env.cells.lookup n with
   |none=>rw[hc]at h;cases h
   |some c=>
    rw[hc]at h;refine km env r _ cl h y ?_
    by_cases e:y=n
    ·subst e;exact .inl ⟨c,by simp⟩
    ·rcases q with ⟨c',q⟩|q
     ·refine .inl ⟨c',?_⟩;have hb:(y==n)=false:=by simpa using e
      rw[eF,hb];exact q
     ·rcases List.mem_cons.mp q with z|z
      ·cases z;exact absurd rfl e
      ·exact .inr z
  ·rw[aJ hk]at h;refine km env r _ cl h y ?_;rcases q with q|q
   ·exact .inl q
   ·rcases List.mem_cons.mp q with z|z
    ·cases z;exact absurd rfl hk
    ·exact .inr z
def CompOk.free(O:CompOk X scope cl own xs M ix):∀y,(y,cR)∈scope.names->∃c,cl.lookup y=some c:=λy h=>km X.env _ _ cl O.clos y (.inr h)
theorem CompOk.cells(O:CompOk X scope cl own xs M ix)(h:cl.lookup y=some c):X.env.cells.lookup y=some c:=
 qc X.env _ _ cl O.clos (λp hp=>by simp at hp) (y,c) (iv h)
def Hn{scope:eI}(h:(lI scope env).names.lookup y=some .cell\/(lI scope env).names.lookup y=some .free):(y,cR)∈scope.names\/(y,eA)∈scope.names:=by
 have key:∃k,(y,k)∈(lI scope env).names/\(k=.cell\/k=.free):=by
  rcases h with h|h
  ·exact⟨_,iv h,.inl rfl⟩
  ·exact⟨_,iv h,.inr rfl⟩
 obtain⟨k,hm,hk⟩:=key;obtain⟨⟨n,k'⟩,hm',e⟩:=List.mem_map.mp hm
 by_cases hc:(k'==cR && env.scope.kind==.function && env.kindOf n==some .cell)=true
 ·simp only[hc,if_true]at e;cases e;have:k'=.free:=by
   simp only[aF]at hc;simpa using hc.1.1
  subst this;exact .inl hm'
 ·simp only[hc,if_false]at e;cases e;rcases hk with hk|hk
  ·subst hk;exact .inr hm'
  ·subst hk;exact .inl hm'
def CompOk.cellIn(O:CompOk X scope cl own xs M ix){y:Str}(h:(y,eA)∈scope.names):y∈own:=by
 have:(y,eA)∈scope.names.filter λy=>y.2==.cell:=List.mem_filter.mpr ⟨h,rfl⟩;rw[O.ocell]at this;obtain⟨z,hz,e⟩:=List.mem_map.mp this;cases e;exact hz
theorem x9{env:Env}:∀{names:List (Str×fP)}{x:Str},names.lookup x=some .cell->
  (names.map λ(n,k)=>if(k==cR && env.scope.kind==.function && env.kindOf n==some .cell)then(n,eA)else(n,k)).lookup x=some .cell
 |[],_,h=>by simp at h
 |(n,k)::r,x,h=>by
  have ih:=@x9 env r x;show List.lookup x ((if(k==cR && env.scope.kind==.function && env.kindOf n==some .cell)=true then(n,eA)else(n,k))::_)=_;cases hx:x==n with
  |true=>
   simp only[eF,hx]at h;cases h;simp[eF,hx]
  |false=>
   simp only[eF,hx]at h
   by_cases hc:(k==cR && env.scope.kind==.function && env.kindOf n==some .cell)=true
   ·rw[aG hc];simp only[eF,hx];exact ih h
   ·rw[aJ hc];simp only[eF,hx];exact ih h
def Kz{env:Env}{x:Str}(h:Us scope x):Us (lI scope env) x:=h.imp (λh=>lookup_relabel_local h) λh=>x9 h
def AF(O:CompOk X scope cl own xs M ix)(I:Inv X pins Z H s)(hf:∀b∈fp,yk X pins H b)(hfs:∀b∈fp,b<s.heap.objs.size){h1:Heap}(hk:∀b o,s.heap.get? b=some o->h1.get? b=some o)(hz:h1.objs.size=s.heap.objs.size+1):
  (ip X scope (Mn own (s.heap.objs.size+2) cl) (xs++M) xs (s.heap.objs.size+1) {s with heap:=h1,toks:=tk} (upd H s.heap.objs.size (.lst [])) fp (X.pn++pins)).Ok:=by
 have jM:H s.heap.objs.size=none:=I.hok.fresh (aH _);have old:∀{b:Addr}{o:Obj},s.heap.get? b=some o->b≠s.heap.objs.size:=λe z=>by
  have:=aT e;rw[z]at this;exact cI _ this
 have cne:∀y c,cl.lookup y=some c->c<s.heap.objs.size:=λy c e=>by
  obtain⟨v,q⟩:=I.cell y c (O.cells e);exact q.lt
 have kO:=I.ok;refine⟨kO.mod,O.kind,kO.glob,kO.blt,?_,?_,?_,?_,kO.hd,kO.frames,.inl rfl,?_,?_,?_,?_,?_,?_,?_⟩
 ·show h1.objs.size<=s.heap.objs.size+1
  lia
 ·intro a b c h1 h2;rcases m6 h1 with h1|⟨h1,e1⟩<;>rcases m6 h2 with h2|⟨h2,e2⟩
  ·exact kO.inj a b c (O.cells h1) (O.cells h2)
  ·exact(TJ (cne _ _ h1) e2 rfl).elim
  ·exact(TJ (cne _ _ h2) e1 rfl).elim
  ·have h0:=O.own1
   match own,h0,h1,h2 with
   |[x],_,h1,h2=>rw[List.mem_singleton.mp h1,List.mem_singleton.mp h2]
 ·intro y hy;rcases Hn (env:=X.env) (scope:=scope) (y:=y) hy with h|h
  ·by_cases ho:y∈own
   ·exact⟨_,Pv O.own1 ho⟩
   ·obtain⟨c,e⟩:=O.free _ h;exact⟨c,(Vp ho).trans e⟩
  ·exact⟨_,Pv O.own1 (O.cellIn h)⟩
 ·intro y c hy hc;have hm:y∈xs:=of_decide_eq_true hy;rcases m6 hc with h|⟨_,e⟩
  ·rw[O.xcl y hm]at h;cases h
  ·show h1.objs.size<=c
   lia
 ·intro b hb;have:=hfs b hb;refine⟨?_,λy c e=>?_⟩
  ·exact uq this
  ·rcases m6 e with e|⟨_,e⟩
   ·exact(hf b hb).2.2.2.2.1 y c (O.cells e)
   ·exact λz=>TJ this e z
 ·intro b o e;obtain⟨q1,q2⟩:=I.bs b o e;refine⟨hk b o q1,?_⟩;show upd H s.heap.objs.size (.lst []) b=none;rw[ak (old q1)];exact q2
 ·show X.base.objs.size<=h1.objs.size;have:=kO.bsz;have:=I.sz
  lia
 ·intro b o e hb;rcases(hf b hb).2.2.2.1 with q|q
  ·exact kO.noex b o e q
  ·exact absurd (bI (aT e) (cB kO.bsz q)) (cI _)
 ·intro b hb hfb;rcases List.mem_cons.mp (I.stkSub b hfb)with e|e
  ·exact(hf b hb).2.1 e
  ·exact(hf b hb).2.2.1 e
 ·exact I.stack.of_keeps λb o e _=>⟨o,hk b o e,rfl⟩
 ·intro b hb;show upd H s.heap.objs.size (.lst []) b=none;have q:=I.stkFree b hb;obtain⟨_,o,ho,_⟩:=I.stack.mem hb;rw[ak (old ho)];exact q
def jj(Z:St)(ix:List Nat)(os:List (Option V)):St:=os++ix.map λi=>(Z[i]?).join
def M6{os:List (Option V)}(hn:os.length=xs.length)(O:CompOk X scope cl own xs M ix):(jj Z ix os).length=(xs++M).length:=by
 unfold jj;rw[aZ,aZ,aO,hn,O.cap.length]
def Vm(O:CompOk X scope cl own xs M ix)(I:Inv X pins Z H s)(hf:∀b∈fp,yk X pins H b)(hfs:∀b∈fp,b<s.heap.objs.size){h1 h2:Heap}(hk:∀b o,s.heap.get? b=some o->h1.get? b=some o)(hz:h1.objs.size=s.heap.objs.size+1)
  (ha:h1.get? s.heap.objs.size=some {cls:=.type "list",data:=.seq #[] 0})(hk2:∀b o,h1.get? b=some o->h2.get? b=some o)(hn:h2.Ns (s.heap.objs.size+1) m)(hoc:∀x∈own,h2.IsCell (s.heap.objs.size+2) none):
  Inv (ip X scope (Mn own (s.heap.objs.size+2) cl) (xs++M) xs (s.heap.objs.size+1) {s with heap:=h1,toks:=tk} (upd H s.heap.objs.size (.lst [])) fp (X.pn++pins)) [] (jj Z ix (aM xs.length none)) (upd H s.heap.objs.size (.lst [])) {s with heap:=h2,toks:=tk2}:=by
 have jM:H s.heap.objs.size=none:=I.hok.fresh (aH _);have old:∀{b:Addr}{o:Obj},s.heap.get? b=some o->b≠s.heap.objs.size:=λe z=>by
  have:=aT e;rw[z]at this;exact cI _ this
 have hn1:h1.get? (s.heap.objs.size+1)=none:=lO (by lia);have frC:H (s.heap.objs.size+1)=none:=I.hok.fresh (fZ _);refine⟨AF O I hf hfs hk hz,rfl,I.bare,Un.kept hk2,⟨m,hn,?_⟩,?_,?_,?_,?_,?_,M6 dE O⟩
 ·intro i y v hi hv _
  by_cases hx:i<xs.length
  ·unfold jj at hv;rw[cP (by rw[dE];exact hx),List.getElem?_replicate_of_lt hx]at hv;cases hv
  ·obtain⟨j,rfl⟩:∃j,i=xs.length+j:=⟨i - xs.length,by lia⟩;have hy:M[j]?=some y:=by
    have q:(xs++M)[xs.length+j]?=some y:=hi;rw[cJ (jC _ _)]at q;simpa using q
   obtain⟨k,hk',C⟩:=O.cap.get j y hy;have hv':((ix.map λi=>(Z[i]?).join)[j]?)=some (some v):=by
    unfold jj at hv;rw[cJ (by rw[dE];exact jC _ _)]at hv;simpa using hv
   rw[bM,hk']at hv';have hs:(Z[k]?).join=some v:=by simpa using hv'
   have hs':Z[k]?=some (some v):=by
    cases e:Z[k]? with
    |none=>rw[e]at hs;simp at hs
    |some o=>rw[e]at hs;simp at hs;rw[hs]
   obtain⟨mX,_,hl⟩:=I.loc;obtain⟨u,r,lk⟩:=hl k y v C.at_ hs' C.vis;refine⟨u,r,.inr ⟨C.kind,?_⟩⟩;rcases lk with ⟨q,_⟩|⟨_,c,hc,hcell⟩
   ·exact absurd q C.nloc
   ·obtain⟨c',hc'⟩:=C.cell;have:=O.cells hc';rw[hc]at this;cases this;have hno:y∉own:=λz=>(List.nodup_append.mp O.nd).2.2 y (O.osub y z) y (bF hy) rfl;exact⟨c,(Vp hno).trans hc',hcell.keeps λb o e=>hk2 b o (hk b o e)⟩
 ·intro y c hc;rcases m6 hc with hc|⟨ho,e⟩
  ·obtain⟨v,q⟩:=I.cell y c (O.cells hc);exact⟨v,q.keeps λb o e=>hk2 b o (hk b o e)⟩
  ·rw[e];exact⟨_,hoc y ho⟩
 ·show upd H s.heap.objs.size (.lst []) (s.heap.objs.size+1)=none;rw[ak Xb];exact frC
 ·intro y c hc;rcases m6 hc with hc|⟨ho,e⟩
  rotate_left
  ·refine .inl ?_;show upd H s.heap.objs.size (.lst []) c=none;rw[ak (YU e).1];exact I.hok.fresh (YU e).2
  obtain⟨v,q⟩:=I.cell y c (O.cells hc);have hne:(ip X scope (Mn own (s.heap.objs.size+2) cl) (xs++M) xs (s.heap.objs.size+1) {s with heap:=h1,toks:=tk} (upd H s.heap.objs.size (.lst [])) fp (X.pn++pins)).fn y=false:=decide_eq_false λz=>by
   have hc':cl.lookup y=some c:=hc;rw[O.xcl y z]at hc';cases hc'
  rcases I.freeC y c (O.cells hc)with fr|⟨_,o,fr⟩
  ·refine .inl ?_;show upd H s.heap.objs.size (.lst []) c=none;rw[ak (bJ q.lt)];exact fr
  ·refine .inr ⟨hne,o,?_⟩;show upd H s.heap.objs.size (.lst []) c=_;rw[ak (bJ q.lt)];exact fr
 ·intro p hp;have hp':p∈X.pn++pins:=by simpa[ip]using hp
  obtain⟨q1,q2,q3,q4,q5⟩:=I.pin p hp';refine⟨hk2 _ _ (hk _ _ q1),?_,?_,?_,q5⟩
  ·show upd H s.heap.objs.size (.lst []) p.1=none;rw[ak (old q1)];exact q2
  ·exact uq (aT q1)
  ·intro hfb;rcases List.mem_cons.mp (I.stkSub p.1 hfb)with e|e
   ·exact q3 e
   ·exact q4 e
 ·refine I.hok.laid (λb o e=>hk2 b o (hk b o e)) (aH _) ⟨bX _,[],0,.nil,hk2 _ _ ha⟩
end
noncomputable def ri(f:D->Option (Option D)):List D->Option (List D)
 |[]=>some []
 |d::r=>match f d with
  |none=>none
  |some o=>match ri f r with
   |none=>none
   |some ys=>some (o.toList++ys)
inductive TR where
 |ok (o:Option D)
 |er (c:Str)
 |st
def m4(F:D->TR):List D->ResL
 |[]=>.ok []
 |d::r=>match F d with
  | .ok o => (match m4 F r with
   |.ok ys=>.ok (o.toList++ys)
   |.er c=>.er c
   |.st=>.st)
  |.er c=>.er c
  |.st=>.st
def SK:Option (Option D)->TR
 |some o=>.ok o
 |none=>.st
theorem Gv{f:D->Option (Option D)}:∀ds:List D,m4 (λd=>SK (f d)) ds=match ri f ds with
  |some ys=>.ok ys
  |none=>.st
 |[]=>rfl
 |d::r=>by
  unfold m4 ri;cases f d with
  |none=>rfl
  |some o=>
   show(match m4 (λd=>SK (f d)) r with
    |.ok ys=>ResL.ok (o.toList++ys)
    |.er c=>.er c
    |.st=>.st)=_
   rw[Gv r];cases ri f r<;>rfl
def P7(zs:List D):ResL->ResL
 |.ok r=>.ok (zs++r)
 |.er c=>.er c
 |.st=>.st
def Wj(R:ResL):R=P7 [] R:=by cases R<;>rfl
def Sr(zs:List D)(o:Option D)(R:ResL):P7 zs (match R with
  |.ok ys=>.ok (o.toList++ys)
  |.er c=>.er c
  |.st=>.st)=P7 (zs++o.toList) R:=by
 cases R with
 |ok r=>exact congrArg ResL.ok (dM ..).symm
 |er c=>rfl
 |st=>rfl
def iq(ix:List Nat)(U:En)(s:Sl):En:=s::ix.map λi=>(U[i]?).getD .no
noncomputable def vk(ix:List Nat)(t:En->Res)(g:En->Res)(U:En)(d:D):Option (Option D):=match t (iq ix U (.pu d))with
 |.ok (.bl true)=>(match g (iq ix U (.pu d))with
  |.ok y=>some (some y)
  |_=>none)
 |.ok (.bl false)=>some none
 |_=>none
noncomputable def bw(r:En->ResL)(ix:List Nat)(t:En->Res)(g:En->Res):En->Res:=λU=>match r U with
 | .ok ds => if ds.length <= aQ then (match ri (vk ix t g U) ds with
  |some ys=>.ok (.lst ys)
  |none=>.st)else .st
 |.er c=>.er c
 |.st=>.st
noncomputable def Wa(r:En->ResL)(f:En->D->Option (Option D)):En->Res:=λU=>match r U with
 | .ok ds => if ds.length <= aQ then (match ri (f U) ds with
  |some ys=>.ok (.lst ys)
  |none=>.st)else .st
 |.er c=>.er c
 |.st=>.st
def qj(r:En->ResL)(F:En->D->TR):En->Res:=λU=>match r U with
 | .ok ds => if ds.length <= aQ then (match m4 (F U) ds with
  |.ok ys=>.ok (.lst ys)
  |.er c=>.er c
  |.st=>.st)else .st
 |.er c=>.er c
 |.st=>.st
def Kc{r:En->ResL}{f:En->D->Option (Option D)}:Wa r f=qj r λU d=>SK (f U d):=by
 funext U
 unfold Wa qj;cases r U with
 |ok ds=>
  dsimp only;rw[Gv];cases ri (f U) ds<;>rfl
 |er c=>rfl
 |st=>rfl
def Sw{r:En->ResL}{F:En->D->TR}:IsL (qj r F):=λU d h=>by
 unfold qj at h;cases e:r U with
 |ok ds=>
  rw[e]at h;dsimp only at h
  by_cases hl:ds.length<=aQ
  ·rw[aG hl]at h;cases e2:m4 (F U) ds with
   |ok ys=>rw[e2]at h;cases h;exact⟨_,rfl⟩
   |er c=>rw[e2]at h;cases h
   |st=>rw[e2]at h;cases h
  ·rw[aJ hl]at h;cases h
 |er c=>rw[e]at h;cases h
 |st=>rw[e]at h;cases h
def GI{F:En->D->TR}(q:ResP E G H (qj r F U) P):
  ResLP E G H (r U) λds=>ds.length<=aQ/\ResLP E G H (m4 (F U) ds) λys=>P (.lst ys):=by
 unfold qj at q;cases e:r U with
 |ok ds=>
  rw[e]at q;dsimp only at q
  by_cases hl:ds.length<=aQ
  ·rw[aG hl]at q;refine⟨hl,?_⟩;cases e2:m4 (F U) ds with
   |ok ys=>rw[e2]at q;exact q
   |er c=>rw[e2]at q;exact q
   |st=>rw[e2]at q;exact q
  ·rw[aJ hl]at q;exact q.elim
 |er c=>rw[e]at q;exact q
 |st=>rw[e]at q;exact q
def mz(ix:List Nat)(U:En):En:=ix.map λi=>(U[i]?).getD .no
def AA{K:KA}{G:Hp}:∀{ds:List D}{vs:List V},DenL K G ds vs->∀{j:Nat}{t:Sl},(ds.map Sl.pu)[j]?=some t->∃d v,t=.pu d/\(vs.map some)[j]?=some (some v)/\Den K G d v:=λ{ds vs} dl j t h=>by
 rw[bM]at h;cases e:ds[j]? with
 |none=>rw[e]at h;cases h
 |some d=>
  rw[e]at h;cases h;obtain⟨v,ev,dv⟩:=dl.get e;exact⟨d,v,rfl,by rw[bM,ev];rfl,dv⟩
def M5{K:KA}{B G H:Hp}{Z:St}{U:En}{ix:List Nat}{ds:List D}{vs:List V}(R:EnvR K B G H Z U)(nd:ix.Nodup)(dl:DenL K G ds vs):EnvR K B G H (jj Z ix (vs.map some)) (ds.map Sl.pu++mz ix U):=by
 have key:∀(j:Nat) t,(mz ix U)[j]?=some t->∃i,ix[j]?=some i/\((t=.no)\/U[i]?=some t)/\(ix.map λi=>(Z[i]?).join)[j]?=some ((Z[i]?).join):=λj t h=>by
  unfold mz at h;rw[bM]at h;cases e:ix[j]? with
  |none=>rw[e]at h;cases h
  |some i=>
   rw[e]at h;refine⟨i,rfl,?_,by rw[bM,e];rfl⟩;cases e2:U[i]? with
   |none=>rw[Option.map_some,e2]at h;cases h;exact .inl rfl
   |some u=>rw[Option.map_some,e2]at h;cases h;exact .inr rfl
 have jo:∀(i:Nat) a,(Z[i]?).join=some (V.ref a)->Z[i]?=some (some (.ref a)):=λi a h=>by
  cases e:Z[i]? with
  |none=>rw[e]at h;simp at h
  |some o=>rw[e]at h;simp at h;rw[h]
 have hl:(vs.map some).length=(ds.map Sl.pu).length:=by rw[aO,aO,dl.length]
 have at_:∀{j:Nat}{t:Sl},(ds.map Sl.pu++mz ix U)[j]?=some t->(∃d v,t=.pu d/\(jj Z ix (vs.map some))[j]?=some (some v)/\Den K G d v)\/∃k,j=ds.length+k/\(mz ix U)[k]?=some t/\(jj Z ix (vs.map some))[j]?=(ix.map λi=>(Z[i]?).join)[k]?:=λ{j t} h=>by
  unfold jj
  by_cases hj:j<(ds.map Sl.pu).length
  ·rw[cP hj]at h;rw[cP (by rw[hl];exact hj)];exact .inl (AA dl h)
  ·obtain⟨k,rfl⟩:∃k,j=ds.length+k:=⟨j - ds.length,by rw[aO]at hj;lia⟩;rw[cJ (by rw[aO];exact jC _ _),aO,Nat.add_sub_cancel_left]at h;exact .inr ⟨k,rfl,h,by rw[cJ (by rw[hl,aO];exact jC _ _),hl,aO,Nat.add_sub_cancel_left]⟩
 refine⟨R.bh,R.gh,?_,λj t h=>?_,λj t a h1 h2 h3=>?_,λj k t u a h1 h2 h3 h4 h5 h6=>?_,R.gb⟩
 ·unfold jj mz;rw[aZ,aZ,hl,aO (as:=ix),aO (as:=ix)]
 ·rcases at_ h with ⟨d,v,rfl,e,dv⟩|⟨k,rfl,h,e⟩
  ·exact⟨some v,e,v,rfl,dv⟩
  ·obtain⟨i,q1,q2,q3⟩:=key k t h;refine⟨_,e.trans q3,?_⟩;rcases q2 with rfl|q2
   ·trivial
   ·obtain⟨o',z1,z2⟩:=R.sl i t q2;rw[z1];exact z2
 ·rcases at_ h1 with ⟨d,v,rfl,e,dv⟩|⟨k,rfl,h,e⟩
  ·cases h2
  ·obtain⟨i,q1,q2,q3⟩:=key k t h;rw[e,q3]at h3;rcases q2 with rfl|q2
   ·cases h2
   ·exact R.own i t a q2 h2 (jo i a (bS h3))
 ·rcases at_ h1 with ⟨d,v,rfl,e,dv⟩|⟨j',rfl,h,e⟩
  ·cases h3
  ·rcases at_ h2 with ⟨d,v,rfl,e',dv⟩|⟨k',rfl,h',e'⟩
   ·cases h4
   ·obtain⟨i,q1,q2,q3⟩:=key j' t h;obtain⟨i',y1,y2,y3⟩:=key k' u h';rw[e,q3]at h5;rw[e',y3]at h6;rcases q2 with rfl|q2
    ·cases h3
    ·rcases y2 with rfl|y2
     ·cases h4
     ·have z:=R.dis i i' t u a q2 y2 h3 h4 (jo i a (bS h5)) (jo i' a (bS h6));subst z;have lj:j'<ix.length:=(List.getElem?_eq_some_iff.mp q1).1;rw[(List.getElem?_inj lj nd).mp (q1.trans y1.symm)]
structure TgB(X:Cx)(n:Nat)(tg:Expr)(td:D->Option (List D)):Prop where
 ex:∃gl,PG X tg gl/\∀{G H:Hp}{os:List (Option V)}{cs:St}{d:D}{v:V}{ds:List D}{Q:St->Hp->Prop},os.length=n->Same G H->Den (kx X) G d v->td d=some ds->(∀vs,DenL (kx X) G ds vs->vs.length=n->Q (vs.map some++cs) H)->gl v (os++cs) H Q
section
variable{X:Cx}{B:Hp}{E:EK}{E':XK}{scope:eI}{cl:List (Str×Addr)}{own xs:List Str}{M:List Str}{ix:List Nat}{elt iter:Expr}{ifs:List Expr}{pos:Pos}{r:En->ResL}{t g:En->Res}{tg:Expr}{td:D->Option (List D)}
abbrev EF:EK:=λ_ _=>False
structure BlockOk(X:Cx)(B:Hp)(E:XK)(scope:eI)(cl:List (Str×Addr))(own xs:List Str)(M:List Str)(tg:Expr)(td:D->Option (List D))(elt:Expr)(ifs:List Expr)(t g:En->Res):Prop where
 tgt:∀C s₀ H₀ ex pn,TgB (ip X scope (Mn own (C+1) cl) (xs++M) xs C s₀ H₀ ex pn) xs.length tg td
 test:(ifs=[]/\t=gC (.bl true))\/∃c,ifs=[c]/\∀C s₀ H₀ ex pn,Ea (ip X scope (Mn own (C+1) cl) (xs++M) xs C s₀ H₀ ex pn) B EF c t
 elt:∀C s₀ H₀ ex pn,Acc (ip X scope (Mn own (C+1) cl) (xs++M) xs C s₀ H₀ ex pn) E->gq (ip X scope (Mn own (C+1) cl) (xs++M) xs C s₀ H₀ ex pn) B (ek (kx X) E) elt g
def UW(d:D):Option (List D):=some [d]
def Q6(O:CompOk X scope cl own [x] M ix)(C s₀ H₀ ex pn):TgB (ip X scope (Mn own (C+1) cl) ([x]++M) [x] C s₀ H₀ ex pn) 1 (.Name x px) UW:=
 ⟨_,Qu (i:=0) O.nd rfl (Kz (O.loc x aN)) (.inl (decide_eq_true aN)),λ{G H os cs d v ds Q} h0 sg dn e q=>by
  cases e
  match os,h0 with
  |[o],_=>exact q [v] (DenL.one dn) rfl⟩
def TurnF(td:D->Option (List D))(cap:En)(t g:En->Res)(f:D->Option (Option D)):Prop:=∀d o,f d=some o->∃ds,td d=some ds/\
 ((t (ds.map Sl.pu++cap)=.ok (.bl true)/\∃y,g (ds.map Sl.pu++cap)=.ok y/\o=some y)\/(t (ds.map Sl.pu++cap)=.ok (.bl false)/\o=none))
def Zv:TurnF UW (mz ix U) t g (vk ix t g U):=λd o h=>by
 refine⟨[d],rfl,?_⟩
 ·unfold vk at h;have e:[d].map Sl.pu++mz ix U=iq ix U (.pu d):=rfl;rw[e];split at h
  ·rename_i ht;split at h
   ·rename_i y hg;cases h;exact .inl ⟨ht,y,hg,rfl⟩
   ·cases h
  ·rename_i ht;cases h;exact .inr ⟨ht,rfl⟩
  ·cases h
def Ey(td:D->Option (List D))(cap:En)(t g:En->Res)(F:D->TR):Prop:=∀d,F d≠.st->∃ds,td d=some ds/\
 ((t (ds.map Sl.pu++cap)=.ok (.bl true)/\((∃y,g (ds.map Sl.pu++cap)=.ok y/\F d=.ok (some y))\/∃c,g (ds.map Sl.pu++cap)=.er c/\F d=.er c))\/(t (ds.map Sl.pu++cap)=.ok (.bl false)/\F d=.ok none))
def TurnF.tr{td:D->Option (List D)}{cap:En}{t g:En->Res}{f:D->Option (Option D)}(h:TurnF td cap t g f):Ey td cap t g λd=>SK (f d):=λd hn=>by
 dsimp only at hn⊢;cases e:f d with
 |none=>rw[e]at hn;exact absurd rfl hn
 |some o=>
  obtain⟨ds,q,z⟩:=h d o e;refine⟨ds,q,z.imp (λ⟨a,y,b,c⟩=>⟨a,.inl ⟨y,b,by rw[c];rfl⟩⟩) λ⟨a,c⟩=>⟨a,by rw[c];rfl⟩⟩
def ResP.ok0{E:EK}{G H:Hp}{r:Res}{P:D->Prop}(d:D)(e:r=.ok d)(h:P d):ResP E G H r P:=by rw[e];exact h
def CJ(Y:Cx)(a:Addr)(k:Nat)(Z:St)(ix:List Nat)(fp:List Addr)(tn:Nat->Heap->Prop)(G H:Hp)(F:D->TR)(ds:List D)(r0:ResL)(n:Nat)(s1:aI):Prop:=
 ∃i os H1 G1 vs zs,os.length=k/\n=ds.length - i/\i<=ds.length/\Inv Y [] (jj Z ix os) H1 s1/\tn i s1.heap/\(∀b∈fp,H1 b=none)/\
   H1 a=some (.lst vs)/\G1 a=none/\Ext G H G1 H1/\DenL (kx Y) G1 zs vs/\zs.length<=i/\r0=P7 zs (m4 F (ds.drop i))
def R8{Y:Cx}{a:Addr}{k:Nat}{Z:St}{U:En}{G H:Hp}{s:aI}{it:Addr}{fp:List Addr}{tn:Nat->Heap->Prop}{J:It}{ds:List D}{r0:ResL}{F:D->TR}{RR:Result->aI->Prop}{n:Nat}
  (TB:TgB Y k tg td)(TE:gq Y B (ek (kx Y) E') elt g)(TT:(ifs=[]/\t=gC (.bl true))\/∃c,ifs=[c]/\Ea Y B EF c t)(hc:Y.calm=true)(hx:∀v s,Y.xe v s->mD (bH Y.prog Y.w) Y.A Y.env (λe s'=>RR (.error e) s') v s)(T:Turn Y.prog Y.w (kx Y) tg J fp it tn)(hfC:∀{H1:Hp},(∀b∈fp,H1 b=none)->∀b∈fp,yk Y [] H1 b)
  (R:EnvR (kx Y) B G H Z U) (ixd:ix.Nodup) (jM:H a=none) (ok:Aq (kx Y) J ds (λG2 H2=>Ext G H G2 H2)) (hl:ds.length<=aQ) (hF:Ey td (mz ix U) t g F) (hst:r0≠.st) (her:∀c,r0=.er c->∀G' H',Ext G H G' H'->ek (kx Y) E' c H')
  (fin:∀s1 H1 G1 vs zs os,Inv Y [] (jj Z ix os) H1 s1->H1 a=some (.lst vs)->G1 a=none->Ext G H G1 H1->DenL (kx Y) G1 zs vs->r0=.ok zs->RR (.ok .next) s1)
  (j:CJ Y a k Z ix fp tn G H F ds r0 n s):iO (bH Y.prog Y.w) Y.A (.compLoop (.ListComp elt [⟨tg,iter,ifs,0⟩] scope pos) 0 (.ref it) (.ref a) Y.env) RR s:=by
 refine Gu (CJ Y a k Z ix fp tn G H F ds r0) ?_ n j
 rintro n s1 ⟨i,os,H1,G1,vs,zs,hos,rfl,hi,I1,st1,fr1,ha1,ga1,x1,dl1,zl,er⟩
 obtain⟨okg,oks⟩:=ok i G1 H1 x1 x1.gh
 by_cases hlt:i<ds.length
 ·obtain⟨go,yl⟩:=okg ds[i] (bL hlt);rw[fK hlt]at er;unfold m4 at er;have ja:F ds[i]≠.st:=λz=>by rw[z]at er;exact hst er
  refine bU (T.item Y rfl rfl rfl hc i [] s1 _ H1 _ I1 (hfC fr1) st1 go) (λrr s2 ⟨u,hr,h2⟩=>?_) hx;subst hr;refine bU h2 (λ_ s3 ⟨xv,H3,I3,r3,y3,st3,fr3⟩=>?_) hx;obtain⟨G3,e3,dn⟩:=yl xv H3 y3;have I3':=I3.pinned (hfC fr3) (T.obj _ _ st3);have x3:=x1.trans e3;have ha3:=e3.hh _ _ ha1;have ga3:=e3.fr _ _ ha1 ga1 rfl;obtain⟨dx,htd,hor⟩:=hF _ ja;obtain⟨gl,TO1,TO2⟩:=TB.ex;refine bU (TO1 _ s3 _ H3 xv u (λσ' H'=>H'=H3/\∃vx,DenL (kx Y) G3 dx vx/\vx.length=k/\σ'=jj Z ix (vx.map some)) I3' r3 (TO2 hos e3.gh dn htd λvx dl hv=>⟨rfl,vx,dl,hv,rfl⟩)) (λ_ s4 ⟨σ4,H4,I4,e4,vx,dlx,hvx,e5⟩=>?_) hx;subst e4 e5;have R4:=M5 (R.ext x3) ixd dlx;have next:∀{s5:aI}{H5:Hp}{G5:Hp}{us:List V}{ws:List D}{oy:Option D},F ds[i]=.ok oy->Inv Y ([]++zg fp s3.heap) (jj Z ix (vx.map some)) H5 s5->
    H5 a=some (.lst us)->G5 a=none->Ext G H G5 H5->DenL (kx Y) G5 ws us->ws=zs++oy.toList->∃m,m<ds.length - i/\CJ Y a k Z ix fp tn G H F ds r0 m s5:=λ{s5 H5 G5 us ws oy} ef I5 ha5 ga5 x5 dl5 ew=>by
   have pn:=λb hb ob e=>I5.pin (b,ob) (bT _ (bT _ (vz hb e)));refine⟨_,Nat.sub_succ_lt_self _ _ hlt,i+1,vx.map some,H5,G5,us,ws,(aO _).trans hvx,rfl,hlt,I5.unpinned,T.keep _ _ _ st3 λb hb ob e=>(pn b hb ob e).1,λb hb=>?_,ha5,ga5,x5,dl5,?_,?_⟩
   ·obtain⟨ob,e,d⟩:=T.obj _ _ st3 b hb;exact(pn b hb ob e).2.1
   ·rw[ew,aZ];exact Nat.add_le_add zl (by cases oy<;>simp)
   ·rw[er,ef,ew];exact Sr zs oy _
  have val:∀{s5:aI}{H5 G5:Hp},Inv Y ([]++zg fp s3.heap) (jj Z ix (vx.map some)) H5 s5->Ext G3 H4 G5 H5->((∃y,g (dx.map Sl.pu++mz ix U)=.ok y/\F ds[i]=.ok (some y))\/∃c,g (dx.map Sl.pu++mz ix U)=.er c/\F ds[i]=.er c)->
    bA (bH Y.prog Y.w) Y.A (eval elt Y.env) (λxx s₄=>bA (bH Y.prog Y.w) Y.A (call (.builtin "list.append") [.ref a,xx]) (λ_ s₅=>∃m,m<ds.length - i/\CJ Y a k Z ix fp tn G H F ds r0 m s₅) (mD (bH Y.prog Y.w) Y.A Y.env λe s'=>RR (.error e) s') s₄) (mD (bH Y.prog Y.w) Y.A Y.env λe s'=>RR (.error e) s') s5:=λ{s5 H5 G5} I5 e5 hv=>by
    refine bU (TE _ s5 _ H5 (λv H6=>∃y G6,F ds[i]=.ok (some y)/\Ext G5 H5 G6 H6/\Den (kx Y) G6 y v) I5 ⟨G5,_,R4.ext e5,?_⟩) (λxx s6 ⟨v6,H6,I6,r6,y,G6,ef,e6,d6⟩=>?_) hx
    ·rcases hv with ⟨y,eg,ef⟩|⟨c,eg,ef⟩
     ·exact ResP.ok0 y eg λv G6 H6 e6 d6=>⟨y,G6,ef,e6,d6⟩
     ·rw[eg];rw[ef]at er;exact λG6 H6 e6=>her c er G6 H6 (x3.trans (e5.trans e6))
    ·have e56:=e5.trans e6;have ga6:=e56.fr _ _ ha3 ga3 rfl;refine bU (Fx _ s6 _ H6 (.ref a) [v6] (.ref a) [xx] (λ_ H7=>H7=upd H6 a (.lst (vs++[v6]))) I6 rfl (.cons r6 .nil) ⟨_,vs,v6,rfl,rfl,e56.hh _ _ ha3,?_,rfl⟩) (λ_ s7 ⟨_,H7,I7,_,e7⟩=>?_) hx
     ·rw[<-dl1.length];exact mL zl (bI hlt hl)
     ·subst e7;exact next ef I7 ar ga6 ((x3.trans e56).wr ga6 jM) ((dl1.mono (e3.gg.trans e56.gg)).append (DenL.one d6)) rfl
  rcases TT with ⟨rfl,rfl⟩|⟨c,rfl,ht⟩
  ·refine wpAny_tests_nil ?_;rcases hor with ⟨_,hv⟩|⟨hb,_⟩
   ·exact val I4 (Ext.refl R4.gh) hv
   ·cases hb
  ·refine wpAny_tests_one ?_;rcases hor with ⟨et,hv⟩|⟨et,ef⟩
   ·refine bU (ht _ s4 _ H4 (λb H6=>b=true/\∃G6,Ext G3 H4 G6 H6) I4 ⟨G3,_,R4,ResP.ok0 (.bl true) et ⟨true,rfl,λG6 H6 e6=>⟨rfl,G6,e6⟩⟩⟩) (λb s6 ⟨H6,I6,eb,G6,e6⟩=>?_) hx;subst eb;exact val I6 e6 hv
   ·refine bU (ht _ s4 _ H4 (λb H6=>b=false/\∃G6,Ext G3 H4 G6 H6) I4 ⟨G3,_,R4,ResP.ok0 (.bl false) et ⟨false,rfl,λG6 H6 e6=>⟨rfl,G6,e6⟩⟩⟩) (λb s6 ⟨H6,I6,eb,G6,e6⟩=>?_) hx;subst eb;exact next ef I6 (e6.hh _ _ ha3) (e6.fr _ _ ha3 ga3 rfl) (x3.trans e6) (dl1.mono (e3.gg.trans e6.gg)) (cA _).symm
 ·obtain rfl:i=ds.length:=Nat.le_antisymm hi (nU hlt);rw[List.drop_length]at er;refine bU (T.done Y rfl rfl rfl hc _ [] s1 _ H1 _ I1 (hfC fr1) st1 (oks (aH _))) (λrr s2 ⟨hr,I2⟩=>?_) hx;subst hr;exact fin s2 H1 G1 vs zs os I2 ha1 ga1 x1 dl1 (er.trans (congrArg ResL.ok (cA _)))
def Uv(X:Cx)(E:XK):Prop:=E=E0
def Uw{N:List Str}{C:Addr}{s₀:aI}{H₀ He:Hp}{fp:List Addr}{pn pins:List (Addr×Obj)}{Z:St}{se:aI}(hA:Uv X E')(I:Inv X pins Z He se)(hC:se.heap.get? C=none)(back:∀{pins' σ' H1 s1},Inv (ip X scope cl N xs C s₀ H₀ fp pn) pins' σ' H1 s1->Inv X pins Z H1 s1):Acc (ip X scope cl N xs C s₀ H₀ fp pn) E':=by
 cases hA;exact wq
def Jq(O:CompOk X scope cl own xs M ix)(hc:X.calm=true)(hA:Uv X E')(Bk:BlockOk X B E' scope cl own xs M tg td elt ifs t g){pins:List (Addr×Obj)}{Z:St}{U:En}{G H:Hp}{s:aI}{it:Addr}{fp:List Addr}{tn:Nat->Heap->Prop}{J:It}{ds:List D}{F:D->TR}
  (I:Inv X pins Z H s)(T:Turn X.prog X.w (kx X) tg J fp it tn)(st:tn 0 s.heap)(hf:∀b∈fp,yk X pins H b)(R:EnvR (kx X) B G H Z U)(ok:Aq (kx X) J ds (λG2 H2=>Ext G H G2 H2))(hl:ds.length<=aQ)(hF:Ey td (mz ix U) t g F)
  {RR:aC->Addr->Result->aI->Prop} (err:∀e s',(∃m,s'.heap.Ns (s.heap.objs.size+1) m/\∀h',cK (s.heap.objs.size+1) s'.heap h'->∀cenv:Env,cenv.locals=s.heap.objs.size+1->bA (bH X.prog X.w) X.A (PySem.passOn "comprehension.variables-let-go" e cenv:Sem aC) (λ_ _=>False) X.xe {s' with heap:=h'})->RR (.ref s.heap.objs.size) (s.heap.objs.size+1) (.error e) s')
  (fin:ResLP (ek (kx X) E') G H (m4 F ds) λys=>∀s1 H1 G1 vs m,Inv X pins Z H1 s1->s1.heap.Ns (s.heap.objs.size+1) m->H1 (s.heap.objs.size+1)=none->Ext G H G1 H1->G1 s.heap.objs.size=none->H1 s.heap.objs.size=some (.lst vs)->DenL (kx X) G1 ys vs->RR (.ref s.heap.objs.size) (s.heap.objs.size+1) (.ok .next) s1):
  bA (bH X.prog X.w) X.A (newList []) (λacc s₃=>bA (bH X.prog X.w) X.A (newFunctionEnv scope X.env.globals cl [] X.env.qual none .none (some X.env)) (λcenv s₄=>
   iO (bH X.prog X.w) X.A (.compStart (.ListComp elt [⟨tg,iter,ifs,0⟩] scope pos) 0 (.ref it) acc {cenv with scope:=lI scope X.env}) (RR acc cenv.locals) s₄) X.xe s₃) X.xe s:=by
 have hfs:∀b∈fp,b<s.heap.objs.size:=λb hb=>by
  obtain⟨o,e,_⟩:=T.obj 0 _ st b hb;exact aT e
 refine cL (Z9 O.ocell O.own1 λh₂ hns₂ hk2 hoc=>?_);dsimp only at hns₂ hk2 hoc⊢;generalize hH2:s.heap.push {cls:=.type "list",dict:=none,data:=.seq ([]:List aC).toArray}=h₁ at hns₂ hk2 hoc⊢;have hz:h₁.objs.size=s.heap.objs.size+1:=by rw[<-hH2,fA]
 rw[hz]at hns₂ hoc⊢;have hk:∀b o,s.heap.get? b=some o->h₁.get? b=some o:=λb o e=>by rw[<-hH2];exact aD _ e
 have ha:h₁.get? s.heap.objs.size=some {cls:=.type "list",data:=.seq #[] 0}:=by rw[<-hH2];exact aX _ rfl
 have I0:=Vm (tk:=s.toks) (tk2:=s.toks) O I hf hfs hk hz ha hk2 hns₂ hoc;have jM:H s.heap.objs.size=none:=I.hok.fresh (aH _);have e0:Ext G H G (upd H s.heap.objs.size (.lst [])):=Ext.own R.gh _ jM;have g0:G s.heap.objs.size=none:=gm R.gh jM;have hfC:∀{H1:Hp},(∀b∈fp,H1 b=none)->∀b∈fp,yk (ip X scope (Mn own (s.heap.objs.size+2) cl) (xs++M) xs (s.heap.objs.size+1) {s with heap:=h₁,toks:=s.toks} (upd H s.heap.objs.size (.lst [])) fp (X.pn++pins)) [] H1 b:=λ{H1} hn b hb=>by
  obtain⟨f0,f1,f2,f3,f4,f5⟩:=hf b hb;refine⟨hn b hb,?_,?_,.inl hb,λy c e=>(by
   rcases m6 e with e|⟨_,e⟩
   ·exact f4 y c (O.cells e)
   ·exact λz=>TJ (hfs b hb) e z),λp hp=>f5 p (by simpa[ip]using hp)⟩
  ·exact uq (hfs b hb)
  ·intro hfb;rcases List.mem_cons.mp (I.stkSub b hfb)with e|e
   ·exact f1 e
   ·exact f2 e
 have u1:Un (El X.stack) fp H (upd H s.heap.objs.size (.lst [])) s.heap h₁:=Un.laid hk (aH _) jM;have back:∀{pins' σ' H1 s1},Inv (ip X scope (Mn own (s.heap.objs.size+2) cl) (xs++M) xs (s.heap.objs.size+1) {s with heap:=h₁,toks:=s.toks} (upd H s.heap.objs.size (.lst [])) fp (X.pn++pins)) pins' σ' H1 s1->Inv X pins Z H1 s1:=λ{pins' σ' H1 s1} I2=>by
  have u2:Un (El X.stack) fp (upd H s.heap.objs.size (.lst [])) H1 h₁ s1.heap:=I2.base;exact I.call' I2.os (u1.trans u2) I2.hok I2.bare λb hb=>by
   obtain⟨f0,f1,f2,f3,f4,f5⟩:=hf b hb;exact⟨f3,f1,f4,f5⟩
 have aY:=Uw hA I (lO (fZ _)) back;have loop:iO (bH X.prog X.w) X.A (.compLoop (.ListComp elt [⟨tg,iter,ifs,0⟩] scope pos) 0 (.ref it) (.ref s.heap.objs.size) (compEnvC scope (Mn own (s.heap.objs.size+2) cl) (s.heap.objs.size+1) X.env)) (RR (.ref s.heap.objs.size) (s.heap.objs.size+1))
   {s with heap:=h₂}:=
  R8 (Y:=ip X scope (Mn own (s.heap.objs.size+2) cl) (xs++M) xs (s.heap.objs.size+1) {s with heap:=h₁,toks:=s.toks} (upd H s.heap.objs.size (.lst [])) fp (X.pn++pins)) (E':=E') (r0:=m4 F ds) (Bk.tgt _ _ _ _ _) (Bk.elt _ _ _ _ _ aY) (Bk.test.imp_right λ⟨c,e,h⟩=>⟨c,e,h _ _ _ _ _⟩) hc (λv s' q=>bU q (λ_ s2 z=>err v s2 z) λe s2 z=>err e s2 z) T hfC R O.ixd jM ok hl hF (λz=>by rw[z]at fin;exact fin) (λc z=>by rw[z]at fin;exact fin)
   (λs2 H1 G1 vs zs os I2 ha1 ga1 x1 dl1 z=>by
    obtain⟨m2,hm2,_⟩:=I2.loc;rw[z]at fin;exact fin s2 H1 G1 vs m2 (back I2) hm2 I2.free x1 ga1 ha1 dl1)
   ⟨0,aM xs.length none,_,G,[],[],dE,rfl,bX _,I0,T.keep 0 _ _ st (λb _ o e=>hk2 b o (hk b o e)),λb hb=>by rw[ak (bJ (hfs b hb))];exact(hf b hb).1,ar,g0,e0,rfl,aH _,Wj _⟩
 exact codeAny_compStart_list loop (T.self _ 0 _ _ _ (T.keep 0 _ _ st (λb _ o e=>hk2 b o (hk b o e))) loop)
def AS(E E2:EK)(F:En->D->TR):Prop:=∀U ds c,m4 (F U) ds=.er c->∀H,E c H->E2 c H
def V3{E E2:EK}{f:En->D->Option (Option D)}:AS E E2 λU d=>SK (f U d):=λU ds c h=>by
 rw[Gv]at h;cases e:ri (f U) ds with
 |none=>rw[e]at h;cases h
 |some ys=>rw[e]at h;cases h
theorem ResLP.er{E E2:EK}{G H:Hp}{r:ResL}{P:List D->Prop}(h:ResLP E G H r P)(f:∀c,r=.er c->∀H,E c H->E2 c H):ResLP E2 G H r P:=by
 cases r with
 |ok ds=>exact h
 |er c=>exact λG' H' e=>f c rfl H' (h G' H' e)
 |st=>exact h
def Xn{F:En->D->TR}(O:CompOk X scope cl own xs M ix)(hc:X.calm=true)(hA:Uv X E')(Bk:BlockOk X B E' scope cl own xs M tg td elt ifs t g)(hF:∀U,Ey td (mz ix U) t g (F U))(hE:AS E (ek (kx X) E') F)(hi:Rn X B E tg iter r)
  (hs:∀x,gQ iter X.env x=pure x:=by intro _;rfl):Ut X B E (.ListComp elt [⟨tg,iter,ifs,0⟩] scope pos) (qj r F):=by
 intro pins s Z H Q I q;rw[eval_ListComp];obtain⟨G,U,R,q⟩:=q;refine wpAny_comprehension_free (use:=none) rfl hs (kg O.clos) O.kind O.names ?_;refine bU (hi pins s Z H (λJ H1=>∃G1 ds,Ext G H G1 H1/\Aq (kx X) J ds (λG2 H2=>Ext G1 H1 G2 H2)/\ds.length<=aQ/\ResLP E G H (m4 (F U) ds) λys=>
  ∀a vs G' H',Ext G H G' H'->H a=none->G' a=none->H' a=some (.lst vs)->DenL (kx X) G' ys vs->Q (.ref a) H') I
  ⟨G,U,R,(GI q).mono λds _ ⟨hl,q⟩ J G1 H1 e1 ok=>⟨G1,ds,e1,ok,hl,q.mono λys _ ⟨ds',ed,q⟩=>by cases ed;exact q⟩⟩) (λv s1 h1=>bU h1 (λitv s2 h2=>?_) λ_ _ e=>e) λ_ _ e=>e
 obtain⟨it,fp,tn,J,H1,rfl,I1,T,st,hf,G1,ds,e1,ok,hl,q⟩:=h2;refine Jq (RR:=λacc C=>compPost (bH X.prog X.w) X.A X.xe none (EP X pins Z Q) acc C) O hc hA Bk I1 T st hf (R.ext e1) ok hl (hF U) (λ_ _ z=>z) (((q.ext e1).er (hE U ds)).mono λys _ q=>?_);intro s3 H3 G3 vs m I3 hm hC e3 g3 h3 dl;refine⟨m,hm,λh' hs'=>⟨.ref s2.heap.objs.size,H3,?_,rfl,q _ vs G3 H3 (e1.trans e3) (gm e1.hh (I1.hok.fresh (aH _))) g3 h3 dl⟩⟩;have hsz:s2.heap.objs.size<=s2.heap.objs.size+1:=fZ _;refine I3.turned (t':=s3.toks) (it:=s2.heap.objs.size+1) (λb o hb e=>hs'.extBut b o hb e) hC ?_ (.inr (cB I1.sz hsz)) ?_ ?_
 ·exact λz=>absurd (bI I1.lt (cB hsz (eQ z))) (cI _)
 ·intro y c hc' z;obtain⟨v',q'⟩:=I1.cell y c hc';exact absurd (bI q'.lt (cB hsz (eQ z.symm))) (cI _)
 ·intro p hp z;exact absurd (bI (aT (I1.pin p hp).1) (cB hsz (eQ z.symm))) (cI _)
end
section
variable{K:KA}
def CZ(h:GW d=some t):iX K (.type t) (.type "int")=some (AX t "int"):=by cases d<;>cases h<;>rfl
def Wz(h:GW d=some t):iX K (.type t) (.type "bool")=some (AX t "bool"):=by cases d<;>cases h<;>rfl
def CY(h:GW d=some t):iX K (.type t) (.type "str")=some (AX t "str"):=by cases d<;>cases h<;>rfl
def W0(h:GW d=some t):iX K (.type t) (.type "list")=some (AX t "list"):=by cases d<;>cases h<;>rfl
def S3(h:GW d=some t):iX K (.type t) (.type "tuple")=some (AX t "tuple"):=by cases d<;>cases h<;>rfl
end
section
variable{X:Cx}{B:Hp}{E:EK}{e a b:Expr}{es:List Expr}{g h:En->Res}{pos:Pos}
def OA(K:KA)(c:String):Prop:=∀{d:D}{t:String},GW d=some t->iX K (.type t) (.type c)=some (AX t c)
def WB(K:KA)(c:String):List V->Hp->VK->Prop:=λxs H Q=>∃G d x t,xs=[x,.ty c]/\Same G H/\Arg K G H d x/\GW d=some t/\Q (.bl (AX t c)) H
def Vb(hk:OA (kx X) c):CallR X (.builtin "isinstance") (WB (kx X) c):=by
 intro pins s Z H xs us Q I r q;obtain⟨G,d,x,t,rfl,sg,ax,et,q⟩:=q;obtain⟨u,u2,rfl,ru,ru2⟩:=Z6 r;cases ru2;have e:=hk et;have fin:∀tk,EP X pins Z Q (.bool (AX t c)) {s with toks:=tk}:=λtk=>⟨.bl (AX t c),H,I.tok tk,rfl,q⟩;cases d with
 |non=>
  cases et;rw[ax.non]at ru;cases ru;exact fT PySem.W.kitx_none I.kIn lD e (λz=>nomatch z) fin
 |bl y=>
  cases et;rw[ax.bl]at ru;cases ru;exact fT PySem.W.kitx_bool I.kIn lD e (λz=>nomatch z) fin
 |int i=>
  cases et;rw[ax.int]at ru;obtain⟨t,rfl⟩:=ru;exact fT PySem.W.kitx_int I.kIn lD e (λz=>nomatch z) fin
 |str y=>
  cases et;rw[ax.str]at ru;obtain⟨t,rfl⟩:=ru;exact fT PySem.W.kitx_str I.kIn lD e (λz=>nomatch z) fin
 |tup ds=>
  cases et;obtain⟨l,vs,rfl,sq,dl⟩:=ax.tup sg;cases ru;obtain⟨its,rv,⟨o,ho,hc,n,hd⟩,_⟩:=I.tuple sq;exact fT PySem.W.kitx_tuple I.kIn ⟨o,ho,hc⟩ e (λz=>nomatch z) fin
 |lst ds=>
  cases et;obtain⟨l,vs,rfl,sq,dl⟩:=ax.lst sg;cases ru;obtain⟨its,rv,pl,_⟩:=I.list sq;obtain⟨o,ho,hc,_⟩:=pl.isList;exact fT PySem.W.kitx_list I.kIn ⟨o,ho,hc⟩ e (λz=>nomatch z) fin
 |dct tt kvs=>
  cases et;have key:∃a,x=.ref a/\((∃es,H a=some (.dK es))\/∃es,H a=some (.dT es)):=by
   rcases ax with ⟨a,h1,h2⟩|⟨_,_,_,z,_⟩|⟨t',kvs',a,z,h1,h2⟩
   ·exact⟨a,h1,h2.elim (λ⟨_,es,q,_⟩=>.inl ⟨es,sg _ _ q⟩) λ⟨_,es,q,_⟩=>.inr ⟨es,sg _ _ q⟩⟩
   ·cases z
   ·exact⟨a,h1,h2.elim (λ⟨_,es,q,_⟩=>.inl ⟨es,q⟩) λ⟨_,es,q,_⟩=>.inr ⟨es,q⟩⟩
  obtain⟨a,rfl,h2⟩:=key;cases ru;rcases h2 with ⟨es,ea⟩|⟨es,ea⟩
  ·obtain⟨_,_,vs,_,p⟩:=(show ObjOk X.prog X.w H s.heap a (.dK es)from I.hok a _ ea);obtain⟨o,es',ep,h1,h2,_⟩:=p;exact fT PySem.W.kitx_dict I.kIn ⟨o,h1,h2.1⟩ e (λz=>nomatch z) fin
  ·obtain⟨_,_,xs,_,o,es',ep,h1,h2,_⟩:=(show ObjOk X.prog X.w H s.heap a (.dT es)from I.hok a _ ea);exact fT PySem.W.kitx_dict I.kIn ⟨o,h1,h2.1⟩ e (λz=>nomatch z) fin
 |obj _ _=>cases et
 |fn _=>cases et
def Dj(hk:OA (kx X) c)(hg:Gl X "isinstance")(hm:X.mg "isinstance"=none)(hg2:Gl X x)(hm2:X.mg x=none)(hv2:gO x=some (.type c))(ha:lx X B E e g)
  (hn2:x≠"__name__":=by decide)(hd2:(x==("__debug__":Str))=false:=by decide)
  (he:bE [e,.Name x p2] X.env=(false,eval e X.env)::bE [.Name x p2] X.env:=by rfl) (he2:bE [.Name x p2] X.env=(false,eval (.Name x p2) X.env)::bE [] X.env:=by rfl) (hpl:(eZ pos (bE [.Name x p2] X.env)).any (·.1)=false:=by rfl):
  gq X B E (.Call (.Name "isinstance" p) [e,.Name x p2] [] pos) (g1 (cy c) g):=
 PE.imp (nu (Vb hk) hg hm boot_isinstance (oq ha (oq (DM (v:=.ty c) hg2 hm2 hv2 rfl hn2 hd2) zf he2) he) (by decide) (by decide) he hpl) λZ H Q ⟨G,U,R,q⟩=>⟨G,U,R,(ResP.bind q).mono λdx _ qx x G1 H1 e1 ax=>by
  obtain⟨d,ed,qd⟩:=ResP.of qx;unfold cy at ed;cases et:GW dx with
  |none=>rw[et]at ed;cases ed
  |some t=>
   rw[et]at ed;cases ed;exact⟨G1,dx,x,t,rfl,e1.gh,ax,et,qd _ G1 H1 e1 rfl⟩⟩
noncomputable def xy(d:D):D->Option Bool
 |.lst xs=>match d8 xs,fk d with
  |some ps,some q=>if bB ps && cZ q then some (ps.any λy=>dB y q)else none
  |_,_=>none
 |.tup xs=>match d8 xs,fk d with
  |some ps,some q=>if bB ps && cZ q then some (ps.any λy=>dB y q)else none
  |_,_=>none
 |.str z=>match d with
  |.str x=>some (!(jZ z x 0 z.length 1).isEmpty)
  |_=>none
 |_=>none
def Ep(d e:D):Option D:=(xy d e).map .bl
def kl(d e:D):Option D:=(xy d e).map λb=>.bl !b
def A7{b:Bool}(h:(match d8 xs,fk d with
  |some ps,some q=>if bB ps && cZ q then some (ps.any λy=>dB y q)else none
  |_,_=>none)=some b):∃ps q,d8 xs=some ps/\fk d=some q/\bB ps=true/\cZ q=true/\b=ps.any λy=>dB y q:=by
 cases e1:d8 xs with
 |none=>rw[e1]at h;cases h
 |some ps=>
  cases e2:fk d with
  |none=>rw[e1,e2]at h;cases h
  |some q=>
   rw[e1,e2]at h;dsimp only at h
   by_cases hs:(bB ps && cZ q)=true
   ·rw[aG hs]at h;cases h;rw[aF]at hs;exact⟨ps,q,rfl,rfl,hs.1,hs.2,rfl⟩
   ·rw[aJ hs]at h;cases h
def Tt(K:KA)(neg:Bool):R2:=λx y H Q=>∃G dx dy b,Same G H/\Arg K G H dx x/\Arg K G H dy y/\xy dx dy=some b/\Q (.bl (if neg then !b else b)) H
def KL(hu:X.A.units+65<eL):OpR X (cF .In) (Tt (kx X) false):=by
 intro pins s Z H x y v u Q I rx ry q;obtain⟨G,dx,dy,b,sg,ax,ay,eb,q⟩:=q;cases dy with
 |lst xs=>
  obtain⟨ps,p,e1,e2,s1,s2,rfl⟩:=A7 eb;obtain⟨as,ra⟩:=f7 I sg ax rx e2;obtain⟨bs,rb⟩:=f7 (p:=.list ps) I sg ay ry (by unfold fk;rw[e1]);exact SeqAt.in_list_reads rb ra s1 (iB s2) (mM s2 hu) ⟨.bl _,H,I,rfl,q⟩
 |tup xs=>
  obtain⟨ps,p,e1,e2,s1,s2,rfl⟩:=A7 eb;obtain⟨as,ra⟩:=f7 I sg ax rx e2;obtain⟨bs,rb⟩:=f7 (p:=.tuple ps) I sg ay ry (by unfold fk;rw[e1]);exact SeqAt.in_tuple_reads rb ra s1 (iB s2) (mM s2 hu) ⟨.bl _,H,I,rfl,q⟩
 |str z=>
  cases dx with
  |str w=>
   cases eb;rw[ax.str]at rx;rw[ay.str]at ry;exact Tc pins s Z H _ _ _ _ Q I rx ry ⟨_,_,rfl,rfl,q⟩
  |_=>cases eb
 |_=>cases eb
def Td(hu:X.A.units+65<eL):OpR X (cF .NotIn) (Tt (kx X) true):=by
 intro pins s Z H x y v u Q I rx ry q;obtain⟨G,dx,dy,b,sg,ax,ay,eb,q⟩:=q;cases dy with
 |lst xs=>
  obtain⟨ps,p,e1,e2,s1,s2,rfl⟩:=A7 eb;obtain⟨as,ra⟩:=f7 I sg ax rx e2;obtain⟨bs,rb⟩:=f7 (p:=.list ps) I sg ay ry (by unfold fk;rw[e1]);exact SeqAt.notIn_list_reads rb ra s1 (iB s2) (mM s2 hu) ⟨.bl _,H,I,rfl,q⟩
 |tup xs=>
  obtain⟨ps,p,e1,e2,s1,s2,rfl⟩:=A7 eb;obtain⟨as,ra⟩:=f7 I sg ax rx e2;obtain⟨bs,rb⟩:=f7 (p:=.tuple ps) I sg ay ry (by unfold fk;rw[e1]);exact SeqAt.notIn_tuple_reads rb ra s1 (iB s2) (mM s2 hu) ⟨.bl _,H,I,rfl,q⟩
 |str z=>
  cases dx with
  |str w=>
   cases eb;rw[ax.str]at rx;rw[ay.str]at ry;exact Hy pins s Z H _ _ _ _ Q I rx ry ⟨_,_,rfl,rfl,q⟩
  |_=>cases eb
 |_=>cases eb
def DC:ib (kx X) Ep (Tt (kx X) false):=λG H x y dx dy d sg ax ay ed Q q=>by
 unfold Ep at ed;cases e:xy dx dy with
 |none=>rw[e]at ed;cases ed
 |some b=>rw[e]at ed;cases ed;exact⟨G,dx,dy,b,sg,ax,ay,e,q _ G H (Ext.refl sg) rfl⟩
def Oa:ib (kx X) kl (Tt (kx X) true):=λG H x y dx dy d sg ax ay ed Q q=>by
 unfold kl at ed;cases e:xy dx dy with
 |none=>rw[e]at ed;cases ed
 |some b=>rw[e]at ed;cases ed;exact⟨G,dx,dy,b,sg,ax,ay,e,q _ G H (Ext.refl sg) rfl⟩
def cu:D->Option D
 |.lst ds=>some (.tup ds)
 |.tup ds=>some (.tup ds)
 |_=>none
def Yo:D->Option D
 |.int i=>some (.int i)
 |.bl b=>some (.int (if b then 1 else 0))
 |_=>none
def Yj(hg:Gl X "tuple")(hm:X.mg "tuple"=none)(ha:lx X B E e g)(he:bE [e] X.env=(false,eval e X.env)::bE [] X.env:=by rfl)(hpl:(eZ pos (bE [] X.env)).any (·.1)=false:=by rfl):gq X B E (.Call (.Name "tuple" p) [e] [] pos) (g1 cu g):=
 PE.imp (mw Ed hg hm kF (gw ha ji he) (by decide) (by decide) he hpl) λZ H Q q=>IP (λG H x dx d sg ax ed Q q=>by
  unfold cu at ed;split at ed
  ·cases ed;obtain⟨l,vs,rfl,sq,dl⟩:=ax.lst sg;exact⟨l,vs,rfl,.inl ⟨sq,λp hp=>q _ (upd G p (.tup vs)) _ (Ext.new sg _ hp) (nc sg hp dl)⟩⟩
  ·cases ed;have ax':=ax;obtain⟨l,vs,rfl,sq,dl⟩:=ax.tup sg;rcases ax' with ad|⟨_,_,_,z,_⟩|⟨_,_,_,z,_⟩
   ·exact⟨l,vs,rfl,.inr ⟨sq,q _ G H (Ext.refl sg) ad⟩⟩
   ·cases z
   ·cases z
  ·cases ed) q
def EO(hg:Gl X "int")(hm:X.mg "int"=none)(ha:lx X B E e g)(he:bE [e] X.env=(false,eval e X.env)::bE [] X.env:=by rfl)(hpl:(eZ pos (bE [] X.env)).any (·.1)=false:=by rfl):gq X B E (.Call (.Name "int" p) [e] [] pos) (g1 Yo g):=
 PE.imp (mw Rx hg hm PyProof.Rows.boot_int (gw ha ji he) (by decide) (by decide) he hpl) λZ H Q q=>IP (λG H x dx d sg ax ed Q q=>by
  unfold Yo at ed;split at ed
  ·cases ed;rw[ax.int];exact .inl ⟨_,rfl,q _ G H (Ext.refl sg) rfl⟩
  ·cases ed;rw[ax.bl];exact .inr ⟨_,rfl,q _ G H (Ext.refl sg) rfl⟩
  ·cases ed) q
end
section
variable{X:Cx}{G0 B:Hp}{E:EK}{e a b:Expr}{es:List Expr}{g h:En->Res}{pos:Pos}
noncomputable def pq(i:Nat)(g:En->Res):En->Out:=λU=>match U[i]? with
 |some (.ow ds)=>(g U).then λd=>if ds.length<aQ then .nx (U.set i (.ow (ds++[d])))else .st
 |_=>.st
def EnvR.owAt{K:KA}{G H:Hp}{Z:St}{U:En}{i:Nat}{ds:List D}(R:EnvR K B G H Z U)(h:U[i]?=some (.ow ds)):∃a vs,Z[i]?=some (some (V.ref a))/\H a=some (.lst vs)/\DenL K G ds vs/\G a=none/\B a=none:=by
 obtain⟨o,q1,a,vs,q2,q3,q4⟩:=R.sl i _ h;subst q2;obtain⟨g,b⟩:=R.own i _ a h rfl q1;exact⟨a,vs,q1,q3,q4,g,b⟩
def Yx{i:Nat}{x:Str}{p apos cpos:Pos}(hv:PE X (.Name x p) (Iq i))(ha:gq X B E e g)
  (hbase:jK (.Name x p) "append" X.env (eval (.Name x p) X.env)=eval (.Name x p) X.env:=by rfl)
  (hfew:((eZ cpos (bE [e] X.env)).all (λx=> !x.1) && (nS cpos (kE [] X.env)).all (λx=>x.1.isSome)
   && decide (([e]:List Expr).length+([]:List iA).length+(if([]:List iA).isEmpty then 0 else 1)<30))=true:=by rfl)
  (hline:(apos.endLine==cpos.line)=true:=by rfl) (hs:bE [e] X.env=(false,eval e X.env)::bE [] X.env:=by rfl) (hplain:(eZ cpos (bE [] X.env)).any (·.1)=false:=by rfl)
  (hsw:jX (.Call (.Attribute (.Name x p) "append" apos) [e] [] cpos) none pos.line X.env=pure false:=by rfl):
  u3 X G0 B E (.Expr (.Call (.Attribute (.Name x p) "append" apos) [e] [] cpos) pos) (pq i g):=
 PS.imp (Ib (HY kG PySem.F.slot_list_append PySem.F.type_list_append Fx hv (Bo ha ji hs) hbase hfew hline hs hplain) hsw) λD Z H ⟨G,U,R,ex,q⟩=>by
  unfold pq at q;cases ed:U[i]? with
  |none=>rw[ed]at q;exact q.elim
  |some sl=>
   rw[ed]at q;cases sl with
   |ow ds=>
    dsimp only at q;obtain⟨l,vs,q1,q2,q3,q4,q5⟩:=R.owAt ed;refine⟨.ref l,q1,.inl ⟨rfl,vs,SqL.of q2⟩,G,U,R,?_⟩;have q':=yh ex q;unfold ae;cases eg:g U with
    |er c=>rw[eg]at q';exact q'
    |st=>rw[eg]at q';exact q'
    |ok d=>
     rw[eg]at q';have q':OutP (kx X) G0 B E G (if ds.length<aQ then .nx (U.set i (.ow (ds++[d])))else .st) D:=q'
     by_cases hl:ds.length<aQ
     ·rw[aG hl]at q';intro ws G1 H1 e1 al;obtain⟨d',dr,v,vr,z1,z2,dv,z3,z4⟩:=al;cases z1;subst z2 z4;have h1:=e1.hh _ _ q2;have g1:=e1.fr _ _ q2 q4 rfl;refine⟨l,vs,v,rfl,rfl,h1,by rw[<-q3.length];exact hl,?_⟩;exact q' Z G1 _ e1.gg (EnvR.wr (R.ext e1) ed q1 h1 ((q3.mono e1.gg).append (DenL.one dv))) (Ext.wr (ex.trans e1) g1 q5)
     ·rw[aJ hl]at q';exact q'.elim
   |no=>exact q.elim
   |pu _=>exact q.elim
   |bo _=>exact q.elim
   |od _ _=>exact q.elim
def J9(T:String)(hT:T="list"\/T="tuple")(l:Addr)(items:Array aC)(n:Nat)(b:Addr)(items2:Array aC)(n2:Nat)(dd2:Option Addr)(sl2:Array (Option aC))(hs0:¬(!items.isEmpty && fN (items.size+items2.size))=true)(hs1:items.size<=aQ)(hs2:items.size+items2.size<=aQ+1):
  Meets (Builtin.«list.extend» ⟨[.ref l,.ref b],[]⟩) (λ_ R s=>s.heap.get? l=some {cls:=.type "list",dict:=none,data:=.seq items n,slots:=#[]}/\s.heap.get? b=some {cls:=.type T,dict:=dd2,data:=.seq items2 n2,slots:=sl2}/\R (.ok (.ret cE)) {s with heap:=s.heap.update l (gH λx=>x++items2),toks:=s.toks}):=
 .of_wp λprog w A R s h=>by
  obtain⟨hp,g,d,tk,os⟩:=s;obtain⟨hl,hb,h⟩:=h;have f1:=AutoSeq1.idx_int;have f2:=AutoSeq1.sub_tuple_tuple;have f3:=AutoSeq1.sub_list_list;have f4:=AutoSeq1.sub_tuple_list;have f5:=AutoSeq1.sub_list_tuple;have hz':(items++items2).size<=aQ+1:=by rw[Array.size_append];exact hs2
  rcases hT with rfl|rfl
  ·wp_walk using(wpAny_updateSeq hl rfl (hz:=hs1) (_hz':=hz')),gY hl,gY hb;exact⟨_,rfl,h⟩
  ·wp_walk using(wpAny_updateSeq hl rfl (hz:=hs1) (_hz':=hz')),gY hl,gY hb;exact⟨_,rfl,h⟩
def RP(K:KA):V->List V->Hp->VK->Prop:=λx vs H Q=>∃l b xs zs,x=.ref l/\vs=[.ref b]/\H l=some (.lst xs)/\(SqL K H b zs\/SqT K H b zs)/\xs.length+zs.length<=aQ/\Q .non (upd H l (.lst (xs++zs)))
def CH:WW X "list.extend" (RP (kx X)):=by
 intro pins s Z H x vs v us Q I rx rv h;obtain⟨l,b,xs,zs,rfl,rfl,hH,hB,hz,q⟩:=h;cases rx;obtain⟨u,rfl,ru⟩:=rv.one;cases ru;obtain⟨z,its,n,r,hl,e⟩:=I.lstM hH;have key:∃T its2 n2 dd2 sl2,(T="list"\/T="tuple")/\Vals zs its2/\s.heap.get? b=some {cls:=.type T,dict:=dd2,data:=.seq its2.toArray n2,slots:=sl2}:=by
  rcases hB with hB|hB
  ·obtain⟨its2,r2,pl,_⟩:=I.list hB;obtain⟨⟨cls,dd,data,sl⟩,n2,ho,c,d,q⟩:=pl;simp only at c d q;subst c d q;exact⟨_,its2,n2,_,sl,.inl rfl,r2,ho⟩
  ·obtain⟨its2,r2,pl,_⟩:=I.tuple hB;obtain⟨⟨cls,dd,data,sl⟩,ho,c,n2,q⟩:=pl;simp only at c q;subst c q;exact⟨_,its2,n2,_,sl,.inr rfl,r2,ho⟩
 obtain⟨T,its2,n2,dd2,sl2,hT,r2,e2⟩:=key;have hl2:=r2.length;have hsz:its.toArray.size+its2.toArray.size<=aQ:=by rw[bC,bC];lia
 have hlong:¬(!its.toArray.isEmpty && fN (its.toArray.size+its2.toArray.size))=true:=by
  rw[Lb hsz,hJ];exact Bool.false_ne_true
 refine oH F.slot_list_extend ⟨_,e,rfl⟩ F.entry_list_extend (F.args_list_extend_2 _ _)
  (J9 T hT l its.toArray n b its2.toArray n2 dd2 sl2 hlong (by rw[bC];lia) (by lia)) ⟨e,e2,?_⟩
 refine⟨.non,_,I.lset (its':=its++its2) hH e (by simp) (r.append r2) ?_,rfl,q⟩;rw[aZ]
 lia
noncomputable def uy(i:Nat)(g:En->Res):En->Out:=λU=>match U[i]? with
 |some (.ow ds)=>(g U).then λd=>match vq d with
  |some es=>if ds.length+es.length<=aQ then .nx (U.set i (.ow (ds++es)))else .st
  |none=>.st
 |_=>.st
def Yy{i:Nat}{x:Str}{p apos cpos:Pos}(hv:PE X (.Name x p) (Iq i))(ha:lx X B E e g)
  (hbase:jK (.Name x p) "extend" X.env (eval (.Name x p) X.env)=eval (.Name x p) X.env:=by rfl)
  (hfew:((eZ cpos (bE [e] X.env)).all (λx=> !x.1) && (nS cpos (kE [] X.env)).all (λx=>x.1.isSome)
   && decide (([e]:List Expr).length+([]:List iA).length+(if([]:List iA).isEmpty then 0 else 1)<30))=true:=by rfl)
  (hline:(apos.endLine==cpos.line)=true:=by rfl) (hs:bE [e] X.env=(false,eval e X.env)::bE [] X.env:=by rfl) (hplain:(eZ cpos (bE [] X.env)).any (·.1)=false:=by rfl)
  (hsw:jX (.Call (.Attribute (.Name x p) "extend" apos) [e] [] cpos) none pos.line X.env=pure false:=by rfl):
  u3 X G0 B E (.Expr (.Call (.Attribute (.Name x p) "extend" apos) [e] [] cpos) pos) (uy i g):=
 PS.imp (Ib (HY kG PySem.F.slot_list_extend PySem.F.type_list_extend CH hv (gw ha ji hs) hbase hfew hline hs hplain) hsw) λD Z H ⟨G,U,R,ex,q⟩=>by
  unfold uy at q;cases ed:U[i]? with
  |none=>rw[ed]at q;exact q.elim
  |some sl=>
   rw[ed]at q;cases sl with
   |ow ds=>
    dsimp only at q;obtain⟨l,vs,q1,q2,q3,q4,q5⟩:=R.owAt ed;refine⟨.ref l,q1,.inl ⟨rfl,vs,SqL.of q2⟩,G,U,R,?_⟩;have q':=yh ex q;unfold ae;cases eg:g U with
    |er c=>rw[eg]at q';exact q'
    |st=>rw[eg]at q';exact q'
    |ok d=>
     rw[eg]at q';cases ei:vq d with
     |none=>
      have q':OutP (kx X) G0 B E G (match vq d with
       |some es=>if ds.length+es.length<=aQ then .nx (U.set i (.ow (ds++es)))else .st
       |none=>.st) D:=q'
      rw[ei]at q';exact q'.elim
     |some es=>
      have q':OutP (kx X) G0 B E G (match vq d with
       |some es=>if ds.length+es.length<=aQ then .nx (U.set i (.ow (ds++es)))else .st
       |none=>.st) D:=q'
      rw[ei]at q';dsimp only at q'
      by_cases hl:ds.length+es.length<=aQ
      ·rw[aG hl]at q';intro ws G1 H1 e1 al;obtain⟨v,rfl,av⟩:=ArgsM.one al;have h1:=e1.hh _ _ q2;have g1:=e1.fr _ _ q2 q4 rfl;have key:∃b zs,v=.ref b/\(SqL (kx X) H1 b zs\/SqT (kx X) H1 b zs)/\DenL (kx X) G1 es zs:=by
        cases d with
        |lst ds'=>cases ei;obtain⟨b,zs,z1,z2,z3⟩:=av.lst e1.gh;exact⟨b,zs,z1,.inl z2,z3⟩
        |tup ds'=>cases ei;obtain⟨b,zs,z1,z2,z3⟩:=av.tup e1.gh;exact⟨b,zs,z1,.inr z2,z3⟩
        |_=>cases ei
       obtain⟨b,zs,rfl,sq,dl⟩:=key;have l1:=q3.length;have l2:=dl.length;refine⟨l,b,vs,zs,rfl,rfl,h1,sq,by lia,?_⟩;exact q' Z G1 _ e1.gg (EnvR.wr (R.ext e1) ed q1 h1 ((q3.mono e1.gg).append dl)) (Ext.wr (ex.trans e1) g1 q5)
      ·rw[aJ hl]at q';exact q'.elim
   |no=>exact q.elim
   |pu _=>exact q.elim
   |bo _=>exact q.elim
   |od _ _=>exact q.elim
end
def nj:D->Option rn
 |.int i=>some (.inl i)
 |.str x=>some (.inr x)
 |_=>none
def Kp(k:rn):nj (kD k)=some k:=by cases k<;>rfl
noncomputable def ph:List (D×D)->rn->Option D
 |[],_=>none
 |(k,d)::r,j=>if nj k=some j then some d else ph r j
section
variable{K:KA}{G:Hp}
theorem DenK.look:∀{kvs:List (D×D)}{es:List (rn×V)},DenK K G kvs es->∀j,(∀d,ph kvs j=some d->∃v,l9 es j=some v/\Den K G d v)/\(ph kvs j=none->l9 es j=none)
 |[],es,h,j=>by
  rw[show es=[]from h];exact⟨λd e=>(by cases e),λ_=>Mm⟩
 |(k,d)::r,es,h,j=>by
  obtain⟨k',v,t,rfl,rfl,dv,dt⟩:=h;obtain⟨i1,i2⟩:=DenK.look dt j;unfold ph;rw[Kp]
  by_cases e:k'=j
  ·subst e;rw[aG rfl];exact⟨λd' z=>⟨v,ug rfl,by cases z;exact dv⟩,λz=>by cases z⟩
  ·rw[aJ (λz=>e (bS z))];refine⟨λd' z=>?_,λz=>?_⟩
   ·obtain⟨u,q1,q2⟩:=i1 d' z;exact⟨u,(n8 e).trans q1,q2⟩
   ·exact(n8 e).trans (i2 z)
end
section
variable{X:Cx}{G0 B:Hp}{E:EK}{e a b:Expr}{es:List Expr}{g h k:En->Res}{pos:Pos}
def Arg.dctK{K:KA}{G H:Hp}{kvs:List (D×D)}{v:V}(s:Same G H)(h:Arg K G H (.dct false kvs) v):∃a es,v=.ref a/\H a=some (.dK es)/\DenK K G kvs es:=by
 rcases h with ⟨a,h1,h2⟩|⟨_,_,_,z,_⟩|⟨t',kvs',a,z,h1,h2⟩
 ·rcases h2 with ⟨_,es,q,r⟩|⟨z,_⟩
  ·exact⟨a,es,h1,s _ _ q,r⟩
  ·cases z
 ·cases z
 ·cases z;rcases h2 with ⟨_,es,q,r⟩|⟨z,_⟩
  ·exact⟨a,es,h1,q,r⟩
  ·cases z
def RG(i:Nat):En->Out:=λU=>.nx (U.set i (.od false []))
def A5{K:KA}{G H:Hp}{d:D}{v:V}{k:rn}(h:Arg K G H d v)(e:nj d=some k):v=kV k:=by
 cases d with
 |int i=>cases e;exact h.int
 |str x=>cases e;exact h.str
 |_=>cases e
end
def ja:Expr->Bool
 |.Starred _ _=>false
 |_=>true
def bc(h:ja e=true):bE (e::es) env=(false,eval e env)::bE es env:=by
 cases e<;>first|rfl|cases h
theorem ub:∀{es:List Expr}{env:Env}{pos:Pos},es.all ja=true->(eZ pos (bE es env)).any (·.1)=false
 |[],_,_,_=>rfl
 |e::es,env,pos,h=>by
  rw[cS,aF]at h;rw[bc h.1];show((false||(eZ pos (bE es env)).any (·.1)))=false;rw[ub h.2];rfl
theorem Dz:∀{es:List Expr}{env:Env}{pos:Pos},es.all ja=true->(eZ pos (bE es env)).all (λx=> !x.1)=true
 |[],_,_,_=>rfl
 |e::es,env,pos,h=>by
  rw[cS,aF]at h;rw[bc h.1];show((true && (eZ pos (bE es env)).all (λx=> !x.1)))=true;rw[Dz h.2];rfl
def Zd(h:ja e=true)(h2:ja f=true):eZ pos (bE [e,f] env)=[(false,eval e env),(false,eval f env)]:=by
 rw[bc h,bc h2];rfl
def Ia:Expr->Bool
 |.UnaryOp .Not _ _=>false
 |.BoolOp _ _ _=>false
 |.IfExp _ _ _ _=>false
 |.Compare _ _ _ _=>false
 |_=>true
def F4{a:Expr}(h:Ia a=true):∀whole,isTrue a env whole=(do let v <-whole;standAt a.pos;holding [v] (truthy v)):=by
 intro whole;cases a<;>first|rfl|(cases h;done)|skip
 rename_i op x p;cases op<;>first|rfl|cases h
def H9:Expr->Bool
 |.Slice _ _ _ _=>false
 |_=>true
def Ti(h:H9 b=true):Gh b:=by
 intro o i;cases b<;>first|rfl|cases h
def rm:Expr->Bool
 |.Set _ _ _=>false
 |_=>true
def tw(h:rm b=true):lH op b=false:=by
 cases b<;>first|rfl|cases h
def wa(h:rm e=true):∀x,gQ e env x=pure x:=by
 intro x;cases e<;>first|rfl|cases h
def Dc(h:rm c=true):pB [op,op'] [b,c]=false:=tw h
def o9:Expr->Bool
 |.ListComp _ _ _ _=>false
 |.SetComp _ _ _ _=>false
 |.DictComp _ _ _ _ _=>false
 |_=>true
def jv(h:o9 e=true):jX e t n env=pure false:=by
 cases e<;>first|rfl|cases h
end Pu
end
section
namespace L2
open PySem PySem.Spec PyProof.Rows
def KB{K:aU}(X:K.In h)(hm:mg x=some (.ref C))(q:gA K C bmB newId=true):OwnCls x C bmB newId mg h:=by
 refine⟨hm,?_⟩;unfold gA at q;split at q
 ·rename_i dd cd sl ho;split at q
  ·rename_i C' bm k0 k1 k2 k3 n k5 hro hs;simp only[aF,beq_iff_eq,gU]at q;obtain⟨⟨⟨⟨⟨rfl,rfl⟩,hdel⟩,ht⟩,hk⟩,hni⟩:=q;obtain⟨nm,bs,mro,ns,qn,hd,sn,sub,ab,col,del⟩:=cd;dsimp only at hro hdel hk hni;subst hro hdel;obtain⟨l⟩:=sl;obtain rfl:l=[k0,k1,k2,k3,some (.builtin n),k5]:=hs;exact⟨bm,ns,nm,qn,bs,hd,sn,sub,ab,col,dd,k0,k1,k2,k3,k5,_,X _ _ ho,.of_isNs (PySem.W.isNs_of_in X hk),PySem.W.nsMap_none_of_in X hk hni,PySem.W.tail_of_in X ht⟩
  ·cases q
 ·cases q
structure ExBase(bmB:List aC)(newId:String):Prop where
 facts:∃Bn inN bmN B nid initId,ExcBaseFacts Bn newId inN bmN/\bmB.contains (.type Bn)=true/\ExcBaseFacts B nid initId bmB
def NH(C:Addr)(E:XK)(t:TA):TS:=λ_ Z H=>t Z H λvs H1=>vs.length<=aQ/\E (.ref C) none H1
def X8{X:Cx}{x:Str}{C:Addr}{bmB:List aC}{newId:String}{E:XK}{e₀:Expr}{rest:List Expr}{t:TA}{np cpos pos:Pos}(hc:X.calm=true)(hg:Gl X x)(hm:X.mg x=some (.ref C))(hx:gA X.K C bmB newId=true)(B:ExBase bmB newId)
  (hp:ro (Ew X.prog X.w) X E)(ha:PA X (e₀::rest) t)(hdb:(x==("__debug__":Str))=false:=by decide)(he:bE (e₀::rest) X.env=(false,eval e₀ X.env)::bE rest X.env:=by rfl)(hpl:(eZ cpos (bE rest X.env)).any (·.1)=false:=by rfl):
  PS X (.Raise (some (.Call (.Name x np) (e₀::rest) [] cpos)) none pos) (NH C E t):=by
 intro pins s Z H D I h;obtain⟨Bn,inN,bmN,B',nid,initId,Fn,hBn,FB⟩:=B.facts;obtain⟨tl,N,nm,q,bs,hdct,sn,sub,ab,col,dd,k0,k1,k2,k3,k5,mN,hC,hN,hni,T⟩:=(KB I.ok.mod.kin hm hx).obj;refine wpAny_Raise_call_subU (C:=C) (nm:=nm) (q:=q) (N:=N) (bs:=bs) (bm:=tl) (hdct:=hdct) (sn:=sn) (sub:=sub) (ab:=ab) (col:=col) (dd:=dd) (k0:=k0) (k1:=k1) (k2:=k2) (k3:=k3) (k5:=k5) Fn hBn FB (mN:=mN) (T.hasType FB.hasBase) (I.ok.hd hc)
  (by rw[he];show(false||(eZ cpos (bE rest X.env)).any (·.1))=false;rw[hpl];rfl) hni (A8 I hg hm ⟨rfl,?_⟩ hdb)
 have h2:=ha cpos pins s Z H _ I h;rw[he]at h2⊢;refine lQ (bU h2 (λus s2 ⟨vs,H1,I1,r,hl,qE⟩=>⟨rfl,?_,I1.bk _ _ hC,hN.keeps I1.bk,T.keeps I1.bk,λh' e made=>?_⟩) λ_ _ y=>y)
 ·show us.length<=aQ;rw[<-r.length];exact hl
 ·obtain⟨tt,ge,_,_⟩:=made.there;refine hp pins Z H1 s2 (.ref e) _ I1 ⟨e,.ref C,H1,rfl,rfl,I1.bare,Un.kept made.keeps,I1.hok.kept made.keeps,⟨made.new,Wl I1.hok made.new,⟨_,_,ge,rfl,rfl,by simp,.inl (by simp),.inl (by simp)⟩⟩,qE⟩
section
variable{P:bQ}{w:bZ}{K:aU}{mg:Str->Option aC}{base:Heap}
def Fun.okE{x qual:Str}{st:Stmt}{f:Addr}{fd:iC}{N ps:List Str}{k:Nat}{sp:Sp}(F:Fun K x qual st f fd)(S:FnScope N ps (bu st))(len:∀vs H Q E,sp vs H Q E->vs.length=ps.length)
   (hbody:∀(cdv:aC)(A:cG)(outer:List Env)(s:aI)(H:Hp)(vs:List V)(Q:VK)(E:XK),fd.code=cdv->Room k (A.deeper (oD qual (bu st) s.heap.objs.size f cdv))->sp vs H Q E->
   ∃t,PSs (Au (Ew P w) P w K mg base N qual (bu st) f cdv A outer s H E) (ff st) t/\t {nx:=λ_ H'=>Q .non H',rt:=Q} (p5 N vs) H):FnOk P w K mg base (Ew P w) (k+1) f fd ps sp:=by
 obtain⟨oc,od,kV,doc,pm,an,cdv,ct,osl,rfl,lk,hcd⟩:=F.ex;exact PD lk hcd S len λA outer s H vs Q E hr hsp=>hbody cdv A outer s H vs Q E rfl hr hsp
def FnOk.calm(F:FnOk P w K mg base (Ew P w) k f fd ps sp):FnOk P w K mg base OB k f fd ps (λvs H Q _=>sp vs H Q E0):=by
 refine⟨λvs H Q E h=>F.len vs H Q E0 h,λA outer s H args us vs Q E hr e0 hb r h=>eP (F.run A outer s H args us vs Q E0 hr e0 hb r h) λrs s' z=>?_⟩;cases rs with
 |ok fl=>cases fl<;>exact z
 |error e=>
  obtain⟨_,_,_,_,_,_,_,_,_,q⟩:=z;exact q.elim
end
end L2
namespace Pu
open PySem PySem.Spec PyProof.Rows L2
def V6{P:bQ}{w:bZ}{Kf:aU}{mg:Str->Option aC}{base:Heap}{x qual:Str}{st:Stmt}{f:Addr}{fd:iC}{N ps:List Str}{k:Nat}{ms:List Bool}{Fb:En->Out}(F:Fun Kf x qual st f fd)(S:FnScope N ps (bu st))(hm:ms.length=ps.length)
   (hbody:∀(cdv:aC)(A:cG)(outer:List Env)(s:aI)(H G0:Hp)(E:XK),fd.code=cdv->Room k (A.deeper (oD qual (bu st) s.heap.objs.size f cdv))->
   Ar (Au (Ew P w) P w Kf mg base N qual (bu st) f cdv A outer s H E) G0 H (ek ⟨Kf,ym mg⟩ E) (ff st) Fb):
  FnOk P w Kf mg base (Ew P w) (k+1) f fd ps (Ou ⟨Kf,ym mg⟩ ms (WN ms N.length Fb)):=by
 refine F.okE S (λvs H Q E h=>h.1.trans hm) λcdv A outer s H vs Q E hc hr h=>?_;obtain⟨hl,gb,G,ds,sg,al,q⟩:=h;exact⟨_,hbody cdv A outer s H G E hc hr,G,_,Nc gb sg al,Ext.refl sg,DP sg q⟩
end Pu
end
section
namespace Pu
open PySem PySem.Spec PyProof.Rows L2
def SY(K:KA)(ms:List Bool)(f:List D->Res):Sp:=λvs H Q E=>vs.length=ms.length/\GOk H/\∃G ds,Same G H/\ArgsM K G H ms ds vs/\ResP (ek K E) G H (f ds) λd=>∃es,d=.lst es/\
 ∀a ws G' H',Ext G H G' H'->H a=none->G' a=none->H' a=some (.lst ws)->DenL K G' es ws->Q (.ref a) H'
structure SC where
 N:List Str
 sc:eI
 td:List Str
 lam:Bool
 blk:Bool
structure FS where
 ms:List Bool
 f:List D->Res
structure XT where
 exc:Str->Bool
 sub:Str->Str->Bool
 ve:Str->Bool
 nsub:Str->Str->Bool
 late:Str->Bool
 nlate:Str->Bool
structure GT where
 fns:Str->Option FS
 gstr:Str->Option Str
 xs:XT
 lam:Expr->List (Str×D)->List D->Res
 own:Str->Bool
noncomputable def vm:List Str:=["len","list","tuple","int","isinstance","range","all","any","sorted","set","min","max","abs","str","bool","dict","enumerate","zip","reversed","ValueError"]
def Ur(X:Cx):Prop:=∃c P,(c,P,X.env.qual++"<lambda>")∈Mc/\X.env.code=.ref c/\PySem.W.CodeHd X.base c P/\
 (∃bm o,X.mg "__builtins__"=some (.ref bm)/\bm≠jU/\bm≠cO/\X.base.get? bm=some o/\o.cls=.type "module"/\o.dict=some jU/\o.data=.plain)/\
 (∀y c,X.env.cells.lookup y=some c->X.s₀.heap.objs.size<=c)/\∀y∈oo,X.fn y=false
structure RoomL(k:Nat)(A:cG):Prop where
 hd:A.handled=none
 dp:A.depth+3 * k+5<mH
 un:A.units+16 * k+190<eL
def RoomL.of(r:Room k A):RoomL k A:=⟨r.hd,r.dp,by have:=r.un;lia⟩
def RoomL.in2{A:cG}(r:Room k A):RoomL k A.in1.in1:=⟨r.hd,r.dp,by have:=r.un;show A.units+1+1+16 * k+190<eL;lia⟩
theorem RoomL.depth{A:cG}(r:RoomL k A):A.depth<mH:=by have:=r.dp;lia
theorem RoomL.deeper{A:cG}(r:RoomL (k+1) A)(env:Env):Room k (A.deeper env):=
 ⟨r.hd,by have:=r.dp;show A.depth+1+3 * k+5<_;lia,by have:=r.un;show A.units+3+16 * k+200<_;lia⟩
def Mr(P:bQ)(w:bZ)(K:aU)(mg:Str->Option aC)(base:Heap)(k:Nat)(e:Expr)(fs:List (Str×D))(ds:List D)(d:D):Prop:=
 ∀(A:cG)(outer:List Env)(s:aI)(H G:Hp)(a:Addr)(us:List aC)(vs:List V)(Q:VK),RoomL k A->Env0 P w K mg base A outer s H->GOk H->Same G H->Den ⟨K,ym mg⟩ G (.obj e fs) (.ref a)->DenL ⟨K,ym mg⟩ G ds vs->Vals vs us->
  (∀v G' H',Ext G H G' H'->Den ⟨K,ym mg⟩ G' d v->Q v H')->iO (bH P w) A (.call (.ref a) ⟨us,[]⟩) (CR (Ew P w) outer P w H s Q E0) s
structure XOk(X:Cx)(C:SC)(T:GT)(E:XK):Prop where
 n:X.N=C.N
 s:X.env.scope=C.sc
 nd:C.N.Nodup
 calm:X.calm=true
 units:X.A.units+65<eL
 fns:∀x s,T.fns x=some s->∃k f fd ps,Room k X.A/\X.mg x=some (.ref f)/\cX X.K (.ref f)=true/\Binds X.K fd ps []/\FnOk X.prog X.w X.K X.mg X.base (Ew X.prog X.w) k f fd ps (Ou (kx X) s.ms s.f)
 gstr:∀x y,T.gstr x=some y->∃t,X.mg x=some (.str y t)
 bl:∀x∈vm,X.mg x=none
 exc:∀x,T.xs.exc x=true->∃C bm newId,X.mg x=some (.ref C)/\gA X.K C bm newId=true/\ExBase bm newId
 sub:∀c y,T.xs.sub c y=true->∃Cy,X.mg y=some (.ref Cy)/\eO X.K (.ref (ym X.mg c)) (.ref Cy)=some true
 ve:∀c,T.xs.ve c=true->PySem.W.kitCls X.K (.ref (ym X.mg c)) (.type "ValueError")=some true
 nsub:∀c y,T.xs.nsub c y=true->∃Cy,X.mg y=some (.ref Cy)/\eO X.K (.ref (ym X.mg c)) (.ref Cy)=some false
 late:∀x,T.xs.late x=true->∃C,C∈Cz/\X.mg x=some (.ref C)
 nlate:∀c,T.xs.nlate c=true->ym X.mg c∉Cz
 acc:Acc X E
 top:C.blk=false->X.ex=[]/\X.stack=X.env::X.outer/\X.env.frame=some X.env.locals
 lamc:C.lam=true->Ur X
 lams:∀e fs ds d,T.lam e fs ds=.ok d->∃k,Room k X.A/\Mr X.prog X.w X.K X.mg X.base k e fs ds d
 own:∀x s,T.own x=true->T.fns x=some s->∃k f fd ps,Room k X.A/\X.mg x=some (.ref f)/\cX X.K (.ref f)=true/\Binds X.K fd ps []/\FnOk X.prog X.w X.K X.mg X.base (Ew X.prog X.w) k f fd ps (SY (kx X) s.ms s.f)
def vis(sc:eI)(x:Str):Bool:=match sc.names.lookup x with
 |some .local=>true
 |some .cell=>true
 |some .free=>true
 |_=>false
def Pd(h:vis sc x=true):PV sc x:=by
 unfold vis at h;unfold PV;cases e:sc.names.lookup x with
 |none=>rw[e]at h;cases h
 |some k=>rw[e]at h;cases k<;>first|exact .inl rfl|exact .inr (.inl rfl)|exact .inr (.inr rfl)|cases h
def Km(sc:eI)(x:Str):Bool:=match sc.names.lookup x with
 |some .local=>true
 |some .cell=>true
 |_=>false
def Cn(h:Km sc x=true):L2.Us sc x:=by
 unfold Km at h;unfold L2.Us;cases e:sc.names.lookup x with
 |none=>rw[e]at h;cases h
 |some k=>rw[e]at h;cases k<;>first|exact .inl rfl|exact .inr rfl|cases h
def pb(x:Str):Bool:= !(x==("__debug__":Str)) && !(x==("__classdict__":Str))
def Le(h:pb x=true):(x==("__debug__":Str))=false:=by
 unfold pb at h;simp only[aF,gU]at h;exact h.1
def Xh(h:pb x=true):(x==("__classdict__":Str))=false:=by
 unfold pb at h;simp only[aF,gU]at h;exact h.2
def Wt(x:Str):List Str->Nat->Option Nat
 |[],_=>none
 |y::r,i=>if x=y then some i else Wt x r (i+1)
theorem Hm:∀{l:List Str}{i j:Nat},Wt x l i=some j->i<=j/\l[j - i]?=some x
 |[],_,_,h=>by cases h
 |y::r,i,j,h=>by
  unfold Wt at h
  by_cases e:x=y
  ·rw[aG e]at h;cases h;subst e;exact⟨aH _,by simp⟩
  ·rw[aJ e]at h;obtain⟨h1,h2⟩:=Hm h;refine⟨by lia,?_⟩;rw[show j - i=(j - (i+1))+1 by lia];simpa using h2
def slot(C:SC)(x:Str):Option Nat:=if vis C.sc x && pb x then Wt x C.N 0 else none
def Bb{C:SC}(h:slot C x=some i):C.N[i]?=some x/\vis C.sc x=true/\pb x=true:=by
 unfold slot at h
 by_cases e:(vis C.sc x && pb x)=true
 ·rw[aG e]at h;rw[aF]at e;obtain⟨_,q⟩:=Hm h;exact⟨by simpa using q,e.1,e.2⟩
 ·rw[aJ e]at h;cases h
def Iz(C:SC)(x:Str):Bool:=decide (C.sc.names.lookup x=some .globalImplicit) && pb x
section
variable{X:Cx}{C:SC}{T:GT}{B:Hp}{E:EK}{x:Str}{i:Nat}{pos:Pos}
def XOk.var(O:XOk X C T E')(h:slot C x=some i):PE X (.Name x pos) (Iq i):=by
 obtain⟨h1,h2,h3⟩:=Bb h;exact LO (by rw[O.n];exact h1) (by rw[O.s];exact Pd h2) (Le h3) (Xh h3)
def XOk.gl(O:XOk X C T E')(h:Iz C x=true):Gl X x/\(x==("__debug__":Str))=false:=by
 unfold Iz at h;rw[aF]at h;refine⟨?_,Le h.2⟩;show X.env.scope.names.lookup x=_;rw[O.s];exact of_decide_eq_true h.1
end
def jx:En->Res:=λ_=>.st
def JU:En->ResL:=λ_=>.st
def wm:En->Out:=λ_=>.st
section
variable{X:Cx}{B G0:Hp}{E:EK}{e tg:Expr}{es:List Expr}
def de:gq X B E e jx:=λpins s Z H Q I ⟨G,U,R,q⟩=>q.elim
def QG:Ut X B E e jx:=λpins s Z H Q I ⟨G,U,R,q⟩=>q.elim
def Al:Ea X B E e jx:=λpins s Z H Q I ⟨G,U,R,q⟩=>q.elim
def GL:Rm X B E ms es JU:=λpos pins s Z H Q I ⟨G,U,R,q⟩=>q.elim
def pv{st:Stmt}:u3 X G0 B E st wm:=λpins s Z H D I ⟨G,U,R,x,q⟩=>q.elim
end
theorem i3:∀{l:List (Str×fP)},(y,cR)∈l↔y∈cx l
 |[]=>by simp[cx]
 |(n,k)::r=>by
  unfold cx
  by_cases h:k=.free
  ·subst h;rw[aG rfl,dU,dU,i3];constructor
   ·rintro (z|z)
    ·cases z;exact .inl rfl
    ·exact .inr z
   ·rintro (z|z)
    ·subst z;exact .inl rfl
    ·exact .inr z
  ·rw[aJ h,dU,i3];constructor
   ·rintro (z|z)
    ·cases z;exact absurd rfl h
    ·exact z
   ·exact .inr
def nv(scope sc:eI):eI:=
 {scope with names:=scope.names.map λ(n,k)=>if(k==.free && sc.kind==.function && sc.names.lookup n==some .cell)then(n,.cell)else(n,k)}
def slots(C:SC):List Str->Option (List Nat)
 |[]=>some []
 |y::r=>match slot C y,slots C r with
  |some i,some is=>some (i::is)
  |_,_=>none
noncomputable def Pn(C:SC)(scope:eI)(y:Str):Bool:=
 (decide (C.sc.names.lookup y=some .cell)||decide (C.sc.names.lookup y=some .free)) &&
 (decide ((nv scope C.sc).names.lookup y=some .cell)||decide ((nv scope C.sc).names.lookup y=some .free))
def Df(scope:eI):List Str:=(scope.names.filter λy=>y.2==.cell).map λy=>y.1
def N7(scope:eI):(scope.names.filter λy=>y.2==.cell)=(Df scope).map λx=>(x,eA):=by
 unfold Df;rw[dA];refine(List.map_id' _).symm.trans (fU λy hy=>?_);have:=(List.mem_filter.mp hy).2;obtain⟨n,k⟩:=y;have:k=.cell:=by simpa using this
 rw[this];rfl
noncomputable def yt(C:SC)(scope:eI)(xs:List Str):Bool:=
 decide (scope.kind=.function) && (decide ((Df scope).length<=1) && (Df scope).all λy=>decide (y∈xs)) && (scope.names.all λy=> !decide (y.2=.local)||decide (scope.names.lookup y.1=some .local)) &&
 (xs.all λx=>decide (scope.names.lookup x=some .local)||decide (scope.names.lookup x=some .cell)) && decide ((xs++cx scope.names).Nodup) && (cx scope.names).all (Pn C scope)
theorem L1{C:SC}:∀{M:List Str}{ix:List Nat},slots C M=some ix->∀{X:Cx}{scope:eI}{cl:List (Str×Addr)},X.N=C.N->X.env.scope=C.sc->(∀y∈M,∃c,cl.lookup y=some c)->M.all (Pn C scope)=true->Caps X scope cl M ix
 |[],ix,h,X,scope,cl,_,_,_,_=>by cases h;exact rfl
 |y::r,ix,h,X,scope,cl,hn,hs,hc,ha=>by
  unfold slots at h;cases e1:slot C y with
  |none=>rw[e1]at h;cases h
  |some i=>
   cases e2:slots C r with
   |none=>rw[e1,e2]at h;cases h
   |some is=>
    rw[e1,e2]at h;cases h;rw[cS,aF]at ha;obtain⟨q1,q2,q3⟩:=Bb e1;have q4:=ha.1;unfold Pn at q4;rw[aF,dG,dG,decide_eq_true_eq,decide_eq_true_eq,decide_eq_true_eq,decide_eq_true_eq]at q4;refine⟨i,is,rfl,⟨by rw[hn];exact q1,by rw[hs];exact Pd q2,?_,hc y (aN),?_⟩,L1 e2 hn hs (λz hz=>hc z (aK _ hz)) ha.2⟩
    ·show X.env.scope.names.lookup y≠_;rw[hs];rcases q4.1 with z|z<;>rw[z]<;>decide
    ·have:lI scope X.env=nv scope C.sc:=by
      unfold lI nv;rw[<-hs];rfl
     rw[this];exact q4.2
theorem L0{C:SC}(nd:C.N.Nodup):∀{M:List Str}{ix:List Nat},slots C M=some ix->M.Nodup->ix.Nodup/\∀i∈ix,∃y∈M,C.N[i]?=some y
 |[],ix,h,_=>by cases h;exact⟨kM,λi hi=>by simp at hi⟩
 |y::r,ix,h,hM=>by
  unfold slots at h;cases e1:slot C y with
  |none=>rw[e1]at h;cases h
  |some i=>
   cases e2:slots C r with
   |none=>rw[e1,e2]at h;cases h
   |some is=>
    rw[e1,e2]at h;cases h;obtain⟨m1,m2⟩:=List.nodup_cons.mp hM;obtain⟨n1,n2⟩:=L0 nd e2 m2;obtain⟨q1,_,_⟩:=Bb e1;refine⟨List.nodup_cons.mpr ⟨λhi=>?_,n1⟩,λj hj=>?_⟩
    ·obtain⟨z,hz,ez⟩:=n2 i hi;rw[q1]at ez;cases ez;exact m1 hz
    ·rcases List.mem_cons.mp hj with rfl|hj
     ·exact⟨y,aN,q1⟩
     ·obtain⟨z,hz,ez⟩:=n2 j hj;exact⟨z,aK _ hz,ez⟩
theorem om(env:Env):∀(names:List (Str×fP))(cs:List (Str×Addr)),(∀y∈cx names,∃c,env.cells.lookup y=some c)->∃cl,i8 env names cs=some cl
 |[],cs,_=>⟨cs,rfl⟩
 |(n,k)::r,cs,h=>by
  unfold i8
  by_cases hk:k=.free
  ·subst hk;rw[aG rfl];obtain⟨c,e⟩:=h n (by unfold cx;rw[aG rfl];exact aN);rw[e];exact om env r _ λy hy=>h y (by unfold cx;rw[aG rfl];exact aK _ hy)
  ·rw[aJ hk];exact om env r cs λy hy=>h y (by unfold cx;rw[aJ hk];exact hy)
theorem sd(env:Env):∀(names:List (Str×fP))(cs cl:List (Str×Addr)),i8 env names cs=some cl->∀y,(cs.lookup y=none)->y∉cx names->cl.lookup y=none
 |[],cs,cl,h,y,q,_=>by cases h;exact q
 |(n,k)::r,cs,cl,h,y,q,m=>by
  unfold i8 at h
  by_cases hk:k=.free
  ·subst hk;rw[aG rfl]at h;unfold cx at m;rw[aG rfl,dU,not_or]at m;cases hc:env.cells.lookup n with
   |none=>rw[hc]at h;cases h
   |some c=>
    rw[hc]at h;refine sd env r _ cl h y ?_ m.2;have hb:(y==n)=false:=by simpa using m.1
    rw[eF,hb];exact q
  ·rw[aJ hk]at h;unfold cx at m;rw[aJ hk]at m;exact sd env r cs cl h y q m
def z8{X:Cx}{scope:eI}(O:XOk X C T E')(ok:X.Ok)(h:yt C scope xs=true)(hx:slots C (cx scope.names)=some ix):∃cl,CompOk X scope cl (Df scope) xs (cx scope.names) ix:=by
 unfold yt at h;simp only[aF,decide_eq_true_eq]at h;obtain⟨⟨⟨⟨⟨h1,h2⟩,h3⟩,h4⟩,h5⟩,h6⟩:=h;have hcells:∀y∈cx scope.names,∃c,X.env.cells.lookup y=some c:=λy hy=>by
  have q:=List.all_eq_true.mp h6 y hy;unfold Pn at q;rw[aF,dG,decide_eq_true_eq,decide_eq_true_eq,<-O.s]at q;exact ok.has y q.1
 obtain⟨cl,hcl⟩:=om X.env scope.names [] hcells;obtain⟨n0,n2,n1⟩:=List.nodup_append.mp h5;have hfree:∀y∈cx scope.names,∃c,cl.lookup y=some c:=λy hy=>km X.env _ _ cl hcl y (.inr (i3.mpr hy));refine⟨cl,hcl,h1,N7 scope,h2.1,λy hy=>?_,λy hy e=>?_,λx hx=>?_,λx hx=>sd X.env _ _ cl hcl x rfl (λhm=>n1 x hx x hm rfl),h5,(L0 O.nd hx n2).1,L1 hx O.n O.s hfree h6⟩
 ·exact of_decide_eq_true (List.all_eq_true.mp h2.2 y hy)
 ·have q:=List.all_eq_true.mp h3 y hy;rw[decide_eq_true e]at q;exact of_decide_eq_true (by simpa using q)
 ·have q:=List.all_eq_true.mp h4 x hx;rw[dG,decide_eq_true_eq,decide_eq_true_eq]at q;exact q
def ov(C:SC)(scope:eI)(xs:List Str):SC:=⟨xs++cx scope.names,nv scope C.sc,[],false,true⟩
def By{scope:eI}(O:XOk X C T E')(h:yt C scope xs=true)(Cc s₀ H₀ ex pn){E2:XK}(ac:Acc (ip X scope cl (xs++cx scope.names) xs Cc s₀ H₀ ex pn) E2):XOk (ip X scope cl (xs++cx scope.names) xs Cc s₀ H₀ ex pn) (ov C scope xs) T E2 where
 n:=rfl
 s:=by
  show lI scope X.env=_;unfold lI;show _=nv scope C.sc;unfold nv;rw[<-O.s];rfl
 nd:=by
  unfold yt at h;simp only[aF,decide_eq_true_eq]at h;exact h.1.2
 calm:=O.calm
 units:=O.units
 fns:=O.fns
 gstr:=O.gstr
 bl:=O.bl
 exc:=O.exc
 sub:=O.sub
 ve:=O.ve
 nsub:=O.nsub
 late:=O.late
 nlate:=O.nlate
 acc:=ac
 top:=λh=>by cases h
 lamc:=λh=>by cases h
 lams:=O.lams
 own:=O.own
theorem XOk.goes{X:Cx}{C:SC}{T:GT}{E:XK}(O:XOk X C T E):ro (Ew X.prog X.w) X E:=O.acc.goes
def XOk.none(O:XOk X C T E):XOk X C T E0:=⟨O.n,O.s,O.nd,O.calm,O.units,O.fns,O.gstr,O.bl,O.exc,O.sub,O.ve,O.nsub,O.late,O.nlate,wq,O.top,O.lamc,O.lams,O.own⟩
end Pu
end
section
namespace L2
open PySem PySem.Spec PyProof.Rows
def Inv.chill{X:Cx}{pins:List (Addr×Obj)}{Z:List (Option V)}{H:Hp}{s:aI}{y:Str}{c:Addr}{o:Obj}(I:Inv X pins Z H s)(hc:X.env.cells.lookup y=some c)(hf:X.fn y=false)(ab:X.s₀.heap.objs.size<=c)(ho:s.heap.get? c=some o)(hn:H c=none):
  Inv X pins Z (upd H c (.frz o (.own 0))) s:=by
 have old:∀b o,X.s₀.heap.get? b=some o->b≠c:=λb o e=>bJ (bI (aT e) ab);refine⟨I.ok,I.os,I.bare,⟨I.base.keep,I.base.slot,λb o e n hx=>?_,I.base.there,λb xs e=>?_,λb o u e=>?_,λb q e=>?_⟩,I.loc,I.cell,?_,λx c' e=>?_,λp hp=>?_,λb u e=>?_,I.len⟩
 ·rw[ak (old b o e)];exact I.base.free b o e n hx
 ·have:=I.base.tups b xs e;rw[ak (aq this hn)];exact this
 ·have:=I.base.frzs b o u e;rw[ak (aq this hn)];exact this
 ·have:=I.base.tbls b q e;rw[ak (aq this hn)];exact this
 ·rw[ak (fM (I.cne y c hc))];exact I.free
 ·by_cases z:c'=c
  ·subst z;have:=I.ok.inj _ _ _ e hc;subst this;exact .inr ⟨hf,o,ar⟩
  ·rw[ak z];exact I.freeC x c' e
 ·obtain⟨q1,q2,q3,q4,q5⟩:=I.pin p hp;have ne:p.1≠c:=λz=>by
   obtain⟨v,oc,h1,h2⟩:=I.cell y c hc;rw[z,h1]at q1;cases q1;exact q5 v h2
  exact⟨q1,by rw[ak ne];exact q2,q3,q4,q5⟩
 ·by_cases z:b=c
  ·subst z;rw[ar]at e;cases e;exact⟨ho,o,ho⟩
  ·rw[ak z]at e;exact(I.hok b u e).stay (λ_ _ _ q=>q) (λb' q=>by rw[ak (aq q hn)];exact q) (λb' xs q=>by rw[ak (aq q hn)];exact q) λb' o' u' q=>by rw[ak (aq q hn)];exact q
end L2
namespace Pu
open PySem PySem.Spec PyProof.Rows L2
section
variable{X:Cx}{pins:List (Addr×Obj)}{Z:St}{s:aI}
theorem Mz:∀(l:List (Str×Addr)),(∀p∈l,X.env.cells.lookup p.1=some p.2/\X.fn p.1=false/\X.s₀.heap.objs.size<=p.2)->∀{G H:Hp},Inv X pins Z H s->Same G H->
  ∃G' H',Inv X pins Z H' s/\Ext G H G' H'/\∀p∈l,∃o,G' p.2=some (.frz o (.own 0))/\s.heap.get? p.2=some o
 |[],_,G,H,I,sg=>⟨G,H,I,Ext.refl sg,λp hp=>by simp at hp⟩
 |(y,c)::r,h,G,H,I,sg=>by
  obtain⟨h1,h2,h3⟩:=h (y,c) aN;obtain⟨v,o,ho,hd⟩:=I.cell y c h1;rcases I.freeC y c h1 with fr|⟨_,o',fr⟩
  ·obtain⟨G',H',I',e',q⟩:=Mz r (λp hp=>h p (aK _ hp)) (I.chill h1 h2 h3 ho fr) (Ext.new sg (.frz o (.own 0)) fr).gh;refine⟨G',H',I',(Ext.new sg (.frz o (.own 0)) fr).trans e',λp hp=>?_⟩;rcases List.mem_cons.mp hp with rfl|hp
   ·exact⟨o,e'.gg _ _ ar,ho⟩
   ·exact q p hp
  ·obtain⟨q1,_⟩:=I.hok c _ fr;rw[ho]at q1;cases q1;obtain⟨G',H',I',e',q⟩:=Mz r (λp hp=>h p (aK _ hp)) I (Ext.known sg fr).gh;refine⟨G',H',I',(Ext.known sg fr).trans e',λp hp=>?_⟩;rcases List.mem_cons.mp hp with rfl|hp
   ·exact⟨o,e'.gg _ _ ar,ho⟩
   ·exact q p hp
end
theorem sa(env:Env):∀(names:List (Str×fP))(cs cl:List (Str×Addr)),i8 env names cs=some cl->∀p∈cl,p∈cs\/(p.1,cR)∈names
 |[],cs,cl,h,p,hp=>by cases h;exact .inl hp
 |(n,k)::r,cs,cl,h,p,hp=>by
  unfold i8 at h
  by_cases hk:k=.free
  ·subst hk;simp only[if_true]at h;cases hc:env.cells.lookup n with
   |none=>rw[hc]at h;cases h
   |some c=>
    rw[hc]at h;rcases sa env r _ cl h p hp with z|z
    ·rcases List.mem_cons.mp z with rfl|z
     ·exact .inr aN
     ·exact .inl z
    ·exact .inr (aK _ z)
  ·rw[aJ hk]at h;rcases sa env r _ cl h p hp with z|z
   ·exact .inl z
   ·exact .inr (aK _ z)
def Bs(U:En):List Str->List Nat->Option (List (Str×D))
 |[],[]=>some []
 |y::ys,i::is=>match U[i]?,Bs U ys is with
  |some (.pu d),some r=>some ((y,d)::r)
  |_,_=>none
 |_,_=>none
theorem Bt{K:KA}{B G H:Hp}{Z:St}{U:En}(R:EnvR K B G H Z U):∀{ys:List Str}{ix:List Nat}{fs:List (Str×D)},Bs U ys ix=some fs->
  ∃vs:List (Str×V),DenF K G fs vs/\vs.map (·.1)=ys/\∀y v,(y,v)∈vs->∃(j i:Nat),ys[j]?=some y/\ix[j]?=some i/\Z[i]?=some (some v)
 |[],[],fs,h=>by cases h;exact⟨[],rfl,rfl,λy v h=>by simp at h⟩
 |[],_::_,_,h=>by cases h
 |_::_,[],_,h=>by cases h
 |y::ys,i::is,fs,h=>by
  unfold Bs at h;split at h
  ·rename_i d r e1 e2;cases h;obtain⟨vs,q1,q2,q3⟩:=Bt R e2;obtain⟨v,z1,z2⟩:=R.var e1;refine⟨(y,v)::vs,⟨v,vs,rfl,z2,q1⟩,by rw[aV,q2],λy' v' hm=>?_⟩;rcases List.mem_cons.mp hm with e|hm
   ·cases e;exact⟨0,i,rfl,rfl,z1⟩
   ·obtain⟨j,i',a1,a2,a3⟩:=q3 y' v' hm;exact⟨j+1,i',by simpa using a1,by simpa using a2,a3⟩
  ·cases h
def W1(C:SC)(params:lC)(scope:eI):Bool:=
 C.lam && params.defaults.isEmpty && params.kw_defaults.isEmpty && decide ((cx scope.names).Nodup) && (cx scope.names).all λy=>decide (C.sc.names.lookup y=some .cell) && decide (y∈oo)
def Ac(e:Expr)(ys:List Str)(ix:List Nat):En->Res:=λU=>match Bs U ys ix with
 |some fs=>.ok (.obj e fs)
 |none=>.st
def Ke(C:SC)(params:lC)(body:Expr)(scope:eI)(pos:Pos):En->Res:=if W1 C params scope then(match slots C (cx scope.names)with
 |some ix=>Ac (.Lambda params body scope pos) (cx scope.names) ix
 |none=>jx)else jx
def Rb{H:Hp}{q:Str}(l:List aC)(h:Trip H q l):TriplesOk l:=by
 fun_induction Trip H q l with
 |case1=>trivial
 |case2 _ _ _ _ c' r ih=>exact ih h.2
 |case3=>exact h.elim
def Zq{H:Hp}{q:Str}{pos:Pos}{cv:aC}(l:List aC)(h:Trip H q l)(e:codeAmong pos l=some cv):∃(c':Addr) (oc:Obj) (vs:Array aC) (t:Tok),cv=.ref c'/\H c'=some (.frz oc (.own 0))/\oc.data=.fields vs/\vs[1]?=some (.str q t):=by
 fun_induction Trip H q l with
 |case1=>cases e
 |case2 _ _ _ _ c' r ih=>
  unfold codeAmong at e;split at e
  ·cases e;obtain⟨⟨oc,vs,t,e1,e2⟩,_⟩:=h;exact⟨c',oc,vs,t,rfl,e1,e2⟩
  ·exact ih h.2 e
 |case3=>exact h.elim
def Ud{H:Hp}{q:Str}{i j:Int}{c':Addr}{oc:Obj}{vs:Array aC}{t:Tok}(l:List aC)(h:Trip H q l)(e1:H c'=some (.frz oc (.own 0)))(e2:oc.data=.fields vs)(e3:vs[1]?=some (.str q t)):Trip H q (l++[dR i,dR j,.ref c']):=by
 fun_induction Trip H q l with
 |case1=>exact⟨⟨oc,vs,t,e1,e2,e3⟩,trivial⟩
 |case2 _ _ _ _ c'' r ih=>exact⟨h.1,ih h.2⟩
 |case3=>exact h.elim
section
variable{X:Cx}{C:SC}{T:GT}{B:Hp}{E:EK}{E':XK}{params:lC}{body:Expr}{scope:eI}{pos:Pos}
def Yg(O:XOk X C T E'):gq X B E (.Lambda params body scope pos) (Ke C params body scope pos):=by
 unfold Ke;cases hl:W1 C params scope with
 |false=>exact de
 |true=>
 rw[aG rfl];cases hx:slots C (cx scope.names)with
 |none=>exact de
 |some ix=>
 dsimp only;intro pins s Z H Q I ⟨G,U,R,q⟩;unfold Ac at q;cases hf:Bs U (cx scope.names) ix with
 |none=>rw[hf]at q;exact q.elim
 |some fs=>
 rw[hf]at q;have q:∀v G' H',Ext G H G' H'->Den (kx X) G' (.obj (.Lambda params body scope pos) fs) v->Q v H':=q;unfold W1 at hl;simp only[aF,decide_eq_true_eq,List.isEmpty_iff]at hl;obtain⟨⟨⟨⟨l1,l2⟩,l3⟩,l4⟩,l5⟩:=hl;obtain⟨c,P,hm,hcode,C0,⟨bm,ob,b1,b2,b3,b4,b5,b6,b7⟩,hab,hfn⟩:=O.lamc l1;have hfree:∀y,(y,cR)∈scope.names->X.env.scope.names.lookup y=some .cell/\y∈oo:=λy hy=>by
  have z:=List.all_eq_true.mp l5 y (i3.mp hy);rw[aF,decide_eq_true_eq,decide_eq_true_eq,<-O.s]at z;exact z
 have hcells:∀y∈cx scope.names,∃c,X.env.cells.lookup y=some c:=λy hy=>I.ok.has y (.inl (hfree y (i3.mpr hy)).1);obtain⟨cl,hcl⟩:=om X.env scope.names [] hcells;have clc:∀p∈cl,X.env.cells.lookup p.1=some p.2:=qc X.env _ _ cl hcl λp hp=>by simp at hp
 have clf:∀p∈cl,(p.1,cR)∈scope.names:=λp hp=>(sa X.env _ _ cl hcl p hp).elim (λz=>by simp at z) λz=>z;obtain⟨G1,H1,I1,e1,hz⟩:=Mz cl (λp hp=>⟨clc p hp,hfn _ (hfree _ (clf p hp)).2,hab _ _ (clc p hp)⟩) I R.gh;have hP:H1 P=some (.tbl (X.env.qual++"<lambda>")):=e1.hh _ _ (R.bh _ _ (R.gb _ hm));obtain⟨ps,hPo,tr⟩:=I1.hok P _ hP;have hns:=I1.mod.glob.keeps I1.bk;have neP:∀{b:Addr}{o:Obj},X.base.get? b=some o->b≠P:=λ{b o} e z=>by
  have:=(I1.bs b o e).2;rw[z,hP]at this;cases this
 have hgP:cO≠P:=by
  obtain⟨o,es,ep,e,_⟩:=I1.mod.glob;exact neP e
 have hb:s.heap.BuiltinsAt X.mg P:=⟨bm,ob,b1,b2,b3,neP b4,I1.bk _ _ b4,b5,b6,b7⟩;have hdef:defaultsOf params X.env=([],[]):=by
  obtain⟨a1,a2,a3,a4,a5,a6,a7⟩:=params;have z1:a7=[]:=l2;have z2:a5=[]:=l3;subst z1 z2;rfl
 obtain⟨vs,dF,dm,dv⟩:=Bt R hf;have cells:∀{G':Hp},Same G1 G'->∀y c,cl.lookup y=some c->∃o v u,G' c=some (.frz o (.own 0))/\o.data=.cell (some u)/\(y,v)∈vs/\RelV v u:=λ{G'} sg y c hc=>by
  have hmem:=iv hc;obtain⟨o,g1,g2⟩:=hz _ hmem;have hyf:=i3.mp (clf _ hmem);have:y∈vs.map (·.1):=by rw[dm];exact hyf
  obtain⟨⟨y',v⟩,hp,rfl⟩:=List.mem_map.mp this;obtain⟨j,i,a1,a2,a3⟩:=dv _ _ hp;obtain⟨k1,k2,k3⟩:X.N[i]?=some y'/\vis C.sc y'=true/\True:=by
   have gen:∀{M:List Str}{ix:List Nat},slots C M=some ix->∀{j i:Nat}{y:Str},M[j]?=some y->ix[j]?=some i->slot C y=some i:=by
    intro M;induction M with
    |nil=>intro ix h j i y z;simp at z
    |cons m M ih=>
     intro ix h j i y z1 z2;unfold slots at h;cases e1:slot C m with
     |none=>rw[e1]at h;cases h
     |some i0=>
      cases e2:slots C M with
      |none=>rw[e1,e2]at h;cases h
      |some is=>
       rw[e1,e2]at h;cases h;cases j with
       |zero=>simp at z1 z2;subst z1;subst z2;exact e1
       |succ j=>exact ih e2 (by simpa using z1) (by simpa using z2)
   obtain⟨m1,m2,m3⟩:=Bb (gen hx a1 a2);exact⟨by rw[O.n];exact m1,m2,trivial⟩
  obtain⟨m,hn,hl⟩:=I.loc;obtain⟨u,ru,lk⟩:=hl i y' v k1 a3 (by rw[O.s];exact Pd k2);have kc:X.env.kindOf y'=some .cell:=(hfree _ (clf _ hmem)).1;rcases lk with ⟨z,_⟩|⟨_,c2,z1,o2,z2,z3⟩
  ·rw[kc]at z;cases z
  ·have:X.env.cells.lookup y'=some c:=clc _ hmem;rw[this]at z1;cases z1;rw[g2]at z2;cases z2;exact⟨o,v,u,sg _ _ g1,z3,hp,ru⟩
 have inj:∀x y c,cl.lookup x=some c->cl.lookup y=some c->x=y:=λx y c h1 h2=>I.ok.inj x y c (clc _ (iv h1)) (clc _ (iv h2));have all:∀y,(y,cR)∈scope.names->∃c,cl.lookup y=some c:=λy h=>km X.env _ _ cl hcl y (.inr h);have frm:∀y c,cl.lookup y=some c->(y,cR)∈scope.names:=λy c h=>clf _ (iv h);refine PySem.W.kla_eval hdef ?_;cases ha:codeAmong pos ps.toList with
 |none=>
  refine PySem.W.kla_makeFunction (mg:=X.mg) (kg hcl) I.ok.glob hns hcode (C0.keeps I1.bk) hPo (Rb _ tr) ha hgP hb λc' ctv h' tk hxt hge hlt hrec htb=>?_;obtain⟨c2,oc,cvs,t,e2,hoc,hd,hv⟩:=hrec;cases e2;have f1:H1 c'=none:=I1.hok.fresh hge;have hs:s.heap.objs.size<=h'.objs.size:=oC (mL hge hlt);have f2:upd H1 c' (.frz oc (.own 0)) h'.objs.size=none:=by rw[ak (jA hlt)];exact I1.hok.fresh hs
  generalize hfo:oQ "<lambda>" (X.env.qual++"<lambda>") params body scope cl ((X.mg "__name__").getD .none) c' ctv=fo;have x2:=(Ext.new e1.gh (.frz oc (.own 0)) f1).trans (Ext.new (Ext.new e1.gh (.frz oc (.own 0)) f1).gh (.frz fo (.own 0)) f2);have old:∀{b:Addr}{u:HO},H1 b=some u->b≠c'/\b≠h'.objs.size:=λ{b u} z=>⟨aq z f1,λy=>by
   have:=I1.hok.lt z;rw[y]at this;exact absurd (bI this hs) (cI _)⟩
  have up:∀{b:Addr}{u:HO},H1 b=some u->upd (upd H1 c' (.frz oc (.own 0))) h'.objs.size (.frz fo (.own 0)) b=some u:=λz=>by rw[ak (old z).2,ak (old z).1];exact z
  have kp:∀{b:Addr}{o:Obj},b≠P->s.heap.get? b=some o->(h'.push fo).get? b=some o:=λhb e=>aD _ (hxt _ _ hb e);have I2:Inv X pins Z (upd (upd H1 c' (.frz oc (.own 0))) h'.objs.size (.frz fo (.own 0))) {s with heap:=h'.push fo,toks:=tk}:=by
   refine I1.un ⟨λb o e n _ _=>kp (λz=>by rw[z,hP]at n;cases n) e,λb o e n _ _=>⟨o.slots,kp (λz=>by rw[z,hP]at n;cases n) e⟩,λb o e n _=>?_,λb o e _=>?_,λb xs e=>up e,λb o u e=>up e,λb q e=>up e⟩ λb u e=>?_
   ·have:=aT e;rw[ak (bJ (bI this hs)),ak (bJ (bI this hge))];exact n
   ·by_cases z:b=P
    ·subst z;exact⟨_,aD _ htb⟩
    ·exact⟨o,kp z e⟩
   ·by_cases z1:b=h'.objs.size
    ·subst z1;rw[ar]at e;cases e;have:(h'.push fo).get? h'.objs.size=some fo:=aX _ (by rw[<-hfo];rfl);exact⟨this,fo,this⟩
    ·rw[ak z1]at e
     by_cases z2:b=c'
     ·subst z2;rw[ar]at e;cases e;have:(h'.push fo).get? b=some oc:=aD _ hoc;exact⟨this,oc,this⟩
     ·rw[ak z2]at e
      by_cases z3:b=P
      ·subst z3;rw[hP]at e;cases e;refine⟨_,aD _ htb,?_⟩;rw[Array.toList_append];refine Ud (oc:=oc) (vs:=cvs) (t:=t) _ (tr.mono λb o u z=>up z) ?_ hd hv;rw[ak (bJ hlt),ar]
      ·refine(I1.hok b u e).stay (λb' u' hb' r=>kp ?_ r) (λb' z=>up z) (λb' xs z=>up z) λb' o' u' z=>up z;rcases hb' with y|y
       ·rw[y];exact z3
       ·intro y';rw[y',hP]at y;cases y
  refine⟨.ref h'.objs.size,_,I2,rfl,q _ _ _ (e1.trans x2) ⟨_,vs,rfl,⟨X.env.qual++"<lambda>",(X.mg "__name__").getD .none,c',ctv,cl,oc,cvs,t,?_,?_,hd,hv,inj,all,frm,cells x2.gg,dm⟩,(dF.mono e1.gg).mono x2.gg⟩⟩
  ·rw[hfo];exact ar
  ·rw[ak (bJ hlt),ar]
 |some cv=>
  obtain⟨c',oc,cvs,t,rfl,hc',hd,hv⟩:=Zq _ tr ha;refine PySem.W.kla_makeFunctionHit (mg:=X.mg) (kg hcl) I.ok.glob hns hcode (C0.keeps I1.bk) hPo (Rb _ tr) ha hb λctv h' tk hk hs=>?_;have f2:H1 h'.objs.size=none:=I1.hok.fresh hs;generalize hfo:oQ "<lambda>" (X.env.qual++"<lambda>") params body scope cl ((X.mg "__name__").getD .none) c' ctv=fo;have x1:=Ext.known e1.gh hc';have x2:=x1.trans (Ext.new x1.gh (.frz fo (.own 0)) f2);have I2:Inv X pins Z (upd H1 h'.objs.size (.frz fo (.own 0))) {s with heap:=h'.push fo,toks:=tk}:=by
   refine I1.laid (λb u e=>aD _ (hk b u e)) hs ?_;have:(h'.push fo).get? h'.objs.size=some fo:=aX _ (by rw[<-hfo];rfl);exact⟨this,fo,this⟩
  subst hfo;refine⟨.ref h'.objs.size,_,I2,rfl,q _ _ _ (e1.trans x2) ⟨_,vs,rfl,⟨X.env.qual++"<lambda>",(X.mg "__name__").getD .none,c',ctv,cl,oc,cvs,t,?_,?_,hd,hv,inj,all,frm,cells x2.gg,dm⟩,(dF.mono e1.gg).mono x2.gg⟩⟩
  ·exact ar
  ·exact(Ext.new x1.gh _ f2).gg _ _ ar
end
end Pu
end
section
namespace Pu
open PySem PySem.Spec PyProof.Rows L2 PySem.SeqAt
def HA(A:cG)(s:aI)(y x:aC)(b:Bool):Prop:=
 ∀(prog:bQ)(w:bZ)(E:aC->aI->Prop)(Q:aC->aI->Prop),Q (.bool b) s->bA (bH prog w) A (richCompare .Lt y x) Q E s
def zb(e c:Nat->Bool)(fin:Bool):List Nat->Bool
 |[]=>fin
 |i::r=>if e i then zb e c fin r else c i
def NA(l m:Addr)(xs ys:Array aC)(n k:Nat)(dd dm:Option Addr)(sl sm:Array (Option aC))(e c:Nat->Bool):
  Meets (Builtin.«tuple.__lt__» ⟨[.ref l,.ref m],[]⟩) (λA R s=>
   s.heap.get? l=some {cls:=.type "tuple",dict:=dd,data:=.seq xs n,slots:=sl}/\
   s.heap.get? m=some {cls:=.type "tuple",dict:=dm,data:=.seq ys k,slots:=sm}/\
   (∀j (p:j<xs.size) (q:j<ys.size),EqAt A.in1 s xs[j] ys[j] (e j)/\(e j=false->HA A.in1 s xs[j] ys[j] (c j)))/\
   R (.ok (.ret (.bool (zb e c (decide (xs.size<ys.size)) (aW (min xs.size ys.size)))))) s):=
 .of_wp λprog w A R s h=>by
  obtain⟨hp,g,d,tk,os⟩:=s;obtain⟨hl,hm,he,h⟩:=h;have f2:=AutoSeq1.sub_tuple_tuple;have hZ:(xs.toList.zip ys.toList).length=min xs.size ys.size:=by simp
  wp_walk using iD hl,iD hm,eC _ (λrest b s'=>b.1=none/\s'=⟨hp,g,d,tk,os⟩/\∃i,
   rest=(xs.toList.zip ys.toList).drop i/\R (.ok (.ret (.bool (zb e c (decide (xs.size<ys.size)) ((aW (min xs.size ys.size)).drop i))))) ⟨hp,g,d,tk,os⟩) _
  case turn=>
   rintro ⟨y,x⟩ rest b s' ⟨hb',rfl,i,hz,hR⟩
   have lt0:i<(xs.toList.zip ys.toList).length:=by
    by_cases z:i<(xs.toList.zip ys.toList).length
    ·exact z
    ·rw[List.drop_of_length_le (nU z)]at hz;cases hz
   have lt1:i<min xs.size ys.size:=by rw[<-hZ];exact lt0
   have p:i<xs.size:=by lia
   have q:i<ys.size:=by lia
   rw[fK lt0]at hz;injection hz with hyx hrest
   obtain rfl:y=xs[i]:=by simpa using congrArg Prod.fst hyx
   obtain rfl:x=ys[i]:=by simpa using congrArg Prod.snd hyx
   have hd:(aW (min xs.size ys.size)).drop i=i::(aW (min xs.size ys.size)).drop (i+1):=by simp[fK,lt1]
   rw[hd]at hR;refine aA ((he i p q).1 prog w _ _ ?_);cases hy:e i with
   |true=>
    simp only[zb,hy,if_true]at hR
    wp_walk
    exact⟨rfl,rfl,i+1,hrest,hR⟩
   |false=>
    simp only[zb,hy,Bool.false_eq_true,if_false]at hR;rw[aG (show(!false)=true from rfl)];refine aA (jS (aA ((he i p q).2 hy prog w _ _ ?_)))
    wp_walk
    exact⟨_,rfl,hR⟩
  case fin=>
   rintro ⟨b1,b2⟩ s' ⟨hb',rfl,i,hz,hR⟩
   simp only at hb';subst hb';have ge0:min xs.size ys.size<=i:=by
    by_cases z:i<(xs.toList.zip ys.toList).length
    ·rw[fK z]at hz;cases hz
    ·lia
   rw[List.drop_of_length_le (by simpa using ge0)]at hR
   wp_walk
   exact⟨_,rfl,by simpa[Builtin.Tuple.tupleCompareSizes,zb]using hR⟩
  case h=>exact⟨rfl,rfl,0,rfl,by simpa using h⟩
mutual
def KY:jI->jI->Option Bool
 |.int i,.int j=>some (decide (i<j))
 |.str x,.str y=>some (decide (x.cps.toList<y.cps.toList))
 |.tuple xs,.tuple ys=>gy xs ys
 |_,_=>none
def gy:List jI->List jI->Option Bool
 |[],[]=>some false
 |[],_::_=>some true
 |_::_,[]=>some false
 |x::xs,y::ys=>match KY x y,gy xs ys with
  |some a,some b=>some (if dB x y then b else a)
  |_,_=>none
end
def qr(xs ys:List jI)(j:Nat):Bool:=match xs[j]?,ys[j]? with
 |some x,some y=>(KY x y).getD false
 |_,_=>false
def tm(h:gy (x::xs) (y::ys)=some c):∃a b,KY x y=some a/\gy xs ys=some b/\c=if dB x y then b else a:=by
 rw[gy]at h;cases h1:KY x y with
 |none=>rw[h1]at h;cases h
 |some a=>
  cases h2:gy xs ys with
  |none=>rw[h1,h2]at h;cases h
  |some b=>rw[h1,h2]at h;cases h;exact⟨a,b,rfl,rfl,rfl⟩
theorem C3:∀l:List Nat,zb e c fin (l.map (· +1))=zb (λj=>e (j+1)) (λj=>c (j+1)) fin l
 |[]=>rfl
 |i::r=>by
  rw[aV];unfold zb;rw[C3 r]
theorem Qi:∀{xs ys:List jI}{c:Bool},gy xs ys=some c->zb (pairEq xs ys) (qr xs ys) (decide (xs.length<ys.length)) (aW (min xs.length ys.length))=c
 |[],[],c,h=>by cases h;rfl
 |[],_::_,c,h=>by cases h;simp[zb]
 |_::_,[],c,h=>by cases h;simp[zb]
 |x::xs,y::ys,c,h=>by
  obtain⟨a,b,h1,h2,rfl⟩:=tm h;have e:min (x::xs).length (y::ys).length=min xs.length ys.length+1:=by simp
  have ih:=Qi h2;rw[e,List.range_succ_eq_map];unfold zb;have e0:pairEq (x::xs) (y::ys) 0=dB x y:=rfl;have c0:qr (x::xs) (y::ys) 0=a:=by simp[qr,h1]
  rw[e0,c0,show(Nat.succ:Nat->Nat)=(· +1)from rfl,C3];have d:(decide ((x::xs).length<(y::ys).length))=decide (xs.length<ys.length):=by simp
  rw[d];have e1:(λj=>pairEq (x::xs) (y::ys) (j+1))=pairEq xs ys:=rfl;have c1:(λj=>qr (x::xs) (y::ys) (j+1))=qr xs ys:=rfl;rw[e1,c1,ih]
mutual
theorem C7:∀(da db:jI)(A:cG)(s:aI)(a b:aC)(as bs:List Addr)(c:Bool),Reads s.heap a da as->Reads s.heap b db bs->da.canLay0=true->db.canLay0=true->A.units+min da.depth db.depth<eL->
  KY da db=some c->HA A s a b c
 |.int i,.int j,A,s,_,_,_,_,c,ra,rb,ha,hb,hu,h=>by
  cases ra;cases rb;cases h;exact λprog w E Q q=>(show bA _ _ (cF .Lt _ _) _ _ _ from PyProof.Rows.lt_int q)
 |.str i,.str j,A,s,_,_,_,_,c,ra,rb,ha,hb,hu,h=>by
  cases ra;cases rb;cases h;exact λprog w E Q q=>(show bA _ _ (cF .Lt _ _) _ _ _ from PyProof.Rows.lt_str q)
 |.tuple xs,.tuple ys,A,s,_,_,_,_,c,ra,rb,ha,hb,hu,h=>by
  cases ra with
  |@tuple l o vs n _ as₁ h1 h2 h3 h4=>
   cases rb with
   |@tuple l' o' vs' n' _ bs₁ k1 k2 k3 k4=>
    have h':gy xs ys=some c:=h;have n1:vs.size=xs.length:=by simpa using ReadsAll.length _ _ _ h4
    have n2:vs'.size=ys.length:=by simpa using ReadsAll.length _ _ _ k4
    obtain⟨cl,dd,dt,sl⟩:=o;obtain⟨cl',dd',dt',sl'⟩:=o';simp only at h2 h3 k2 k3;subst h2 h3 k2 k3;intro prog w E Q q;refine richCompare_meets_room (op:=.Lt) ⟨_,h1,rfl⟩ ⟨_,k1,rfl⟩ F.slot_tuple_lt F.entry_tuple_lt (F.args_tuple_lt_2 _ _) (NA l l' vs vs' n n' dd dd' sl sl' (pairEq xs ys) (qr xs ys)) ⟨h1,k1,λj p r=>⟨?_,λ_=>?_⟩,?_⟩ (room_here hu)
    ·have z:=eqAt_readsAll xs ys A.in1 s vs.toList vs'.toList _ _ h4 k4 ha hb (room_in hu) j (by simpa using p) (by simpa using r);simpa using z
    ·have z:=vi xs ys A.in1 s vs.toList vs'.toList _ _ c h4 k4 ha hb (room_in hu) h' j (by simpa using p) (by simpa using r);simpa using z
    ·have e:=Qi h';rw[<-n1,<-n2]at e;rw[e];exact show lB c≠Value.notImplemented/\Q (.bool c) s from⟨(λx=>nomatch x),q⟩
 |.none,_,_,_,_,_,_,_,_,_,_,_,_,_,h=>by cases h
 |.bool _,_,_,_,_,_,_,_,_,_,_,_,_,_,h=>by cases h
 |.list _,_,_,_,_,_,_,_,_,_,_,_,_,_,h=>by cases h
 |.dict _,_,_,_,_,_,_,_,_,_,_,_,_,_,h=>by cases h
 |.int _,.none,_,_,_,_,_,_,_,_,_,_,_,_,h=>by cases h
 |.int _,.bool _,_,_,_,_,_,_,_,_,_,_,_,_,h=>by cases h
 |.int _,.str _,_,_,_,_,_,_,_,_,_,_,_,_,h=>by cases h
 |.int _,.list _,_,_,_,_,_,_,_,_,_,_,_,_,h=>by cases h
 |.int _,.tuple _,_,_,_,_,_,_,_,_,_,_,_,_,h=>by cases h
 |.int _,.dict _,_,_,_,_,_,_,_,_,_,_,_,_,h=>by cases h
 |.str _,.none,_,_,_,_,_,_,_,_,_,_,_,_,h=>by cases h
 |.str _,.bool _,_,_,_,_,_,_,_,_,_,_,_,_,h=>by cases h
 |.str _,.int _,_,_,_,_,_,_,_,_,_,_,_,_,h=>by cases h
 |.str _,.list _,_,_,_,_,_,_,_,_,_,_,_,_,h=>by cases h
 |.str _,.tuple _,_,_,_,_,_,_,_,_,_,_,_,_,h=>by cases h
 |.str _,.dict _,_,_,_,_,_,_,_,_,_,_,_,_,h=>by cases h
 |.tuple _,.none,_,_,_,_,_,_,_,_,_,_,_,_,h=>by cases h
 |.tuple _,.bool _,_,_,_,_,_,_,_,_,_,_,_,_,h=>by cases h
 |.tuple _,.int _,_,_,_,_,_,_,_,_,_,_,_,_,h=>by cases h
 |.tuple _,.str _,_,_,_,_,_,_,_,_,_,_,_,_,h=>by cases h
 |.tuple _,.list _,_,_,_,_,_,_,_,_,_,_,_,_,h=>by cases h
 |.tuple _,.dict _,_,_,_,_,_,_,_,_,_,_,_,_,h=>by cases h
theorem vi:∀(xs ys:List jI)(A:cG)(s:aI)(vs ws:List aC)(as bs:List Addr)(c:Bool),ReadsAll s.heap vs xs as->ReadsAll s.heap ws ys bs->bB xs=true->bB ys=true->
  A.units+min (bV xs) (bV ys)<eL->gy xs ys=some c->∀j (p:j<vs.length) (q:j<ws.length),HA A s vs[j] ws[j] (qr xs ys j)
 |[],_,_,_,_,_,_,_,_,ra,_,_,_,_,_,j,p,_=>by cases ra;exact absurd p (lX _)
 |_::_,[],_,_,_,_,_,_,_,_,rb,_,_,_,_,j,_,q=>by cases rb;exact absurd q (lX _)
 |x::xs,y::ys,A,s,_,_,_,_,c,ra,rb,ha,hb,hu,h,j,p,q=>by
  have ha':x.canLay0=true/\bB xs=true:=by simpa[bB]using ha
  have hb':y.canLay0=true/\bB ys=true:=by simpa[bB]using hb
  obtain⟨a,b,h1,h2,_⟩:=tm h;cases ra with
  |cons r rs=>
   cases rb with
   |cons r' rs'=>
    cases j with
    |zero=>
     have e:qr (x::xs) (y::ys) 0=a:=by simp[qr,h1]
     rw[e];exact C7 x y A s _ _ _ _ a r r' ha'.1 hb'.1 (room_head hu) h1
    |succ j=>exact vi xs ys A s _ _ _ _ b rs rs' ha'.2 hb'.2 (room_tail hu) h2 j (Nat.lt_of_succ_lt_succ p) (Nat.lt_of_succ_lt_succ q)
end
end Pu
end
section
namespace Pu
open PySem PySem.Spec PyProof.Rows L2
def cg(d e:D):Option D:=match e with
 |.dct false kvs=>(nj d).map λj=>.bl (ph kvs j).isSome
 |e=>Ep d e
def cj(d e:D):Option D:=match e with
 |.dct false kvs=>(nj d).map λj=>.bl !(ph kvs j).isSome
 |e=>kl d e
section
variable{X:Cx}
def Do(neg:Bool):R2:=λx y H Q=>∃a o,y=.ref a/\DGet H a x o/\Q (.bl (if neg then !o.isSome else o.isSome)) H
def Xi(hu:X.A.units+5<eL):OpR X (cF .In) (Do false):=by
 intro pins s Z H x y v u Q I rx ry q;obtain⟨a,o,rfl,dg,q⟩:=q;cases ry;exact WR hu I dg rx λs' I'=>⟨.bl o.isSome,H,I',rfl,q⟩
def Lf(hu:X.A.units+5<eL):OpR X (cF .NotIn) (Do true):=by
 intro pins s Z H x y v u Q I rx ry q;obtain⟨a,o,rfl,dg,q⟩:=q;cases ry;exact AC hu I dg rx λs' I'=>⟨.bl !o.isSome,H,I',rfl,q⟩
def Wm{K:KA}{neg:Bool}{G H:Hp}{x y:V}{dx d:D}{kvs:List (D×D)}(sg:Same G H)(ax:Arg K G H dx x)(ay:Arg K G H (.dct false kvs) y)(ed:((nj dx).map λj=>D.bl (if neg then !(ph kvs j).isSome else(ph kvs j).isSome))=some d)(Q:VK)(q:∀v G' H',Ext G H G' H'->Den K G' d v->Q v H'):Do neg x y H Q:=by
 cases ek:nj dx with
 |none=>rw[ek]at ed;cases ed
 |some j=>
  rw[ek]at ed;cases ed;obtain⟨l,es,rfl,h1,dl⟩:=Arg.dctK sg ay;rw[A5 ax ek];have e:(ph kvs j).isSome=(l9 es j).isSome:=by
   cases el:ph kvs j with
   |none=>rw[(dl.look j).2 el];rfl
   |some d=>obtain⟨v,ev,_⟩:=(dl.look j).1 d el;rw[ev];rfl
  refine⟨l,l9 es j,rfl,DGet.k h1,q _ G H (Ext.refl sg) ?_⟩;show Den K G (.bl (if neg=true then !(ph kvs j).isSome else(ph kvs j).isSome)) _;rw[e];rfl
def X5:ib (kx X) cg (λx y H Q=>Tt (kx X) false x y H Q\/Do false x y H Q):=λG H x y dx dy d sg ax ay ed Q q=>by
 unfold cg at ed;split at ed
 ·exact .inr (Wm (neg:=false) sg ax ay ed Q q)
 ·exact .inl (DC G H x y dx _ d sg ax ay ed Q q)
def Lj:ib (kx X) cj (λx y H Q=>Tt (kx X) true x y H Q\/Do true x y H Q):=λG H x y dx dy d sg ax ay ed Q q=>by
 unfold cj at ed;split at ed
 ·exact .inr (Wm (neg:=true) sg ax ay ed Q q)
 ·exact .inl (Oa G H x y dx _ d sg ax ay ed Q q)
def JR(x y d:D)(h:cg x y=some d):∃b,d=.bl b:=by
 unfold cg at h;split at h
 ·obtain⟨j,_,rfl⟩:=Option.map_eq_some_iff.mp h;exact⟨_,rfl⟩
 ·exact Hu (f:=id) h
def S9(x y d:D)(h:cj x y=some d):∃b,d=.bl b:=by
 unfold cj at h;split at h
 ·obtain⟨j,_,rfl⟩:=Option.map_eq_some_iff.mp h;exact⟨_,rfl⟩
 ·exact Hu (f:=λb=> !b) h
end
abbrev Ev:=SC->Expr->En->Res
def jc(T:GT)(ev:Ev):Prop:=∀X C B (E:XK) e,XOk X C T E->gq X B (ek (kx X) E) e (ev C e)
def Eb(T:GT)(tv:Ev):Prop:=∀X C B (E:XK) e,XOk X C T E->Ea X B (ek (kx X) E) e (tv C e)
section
variable{X:Cx}{B:Hp}{E:EK}{e a b:Expr}{es:List Expr}{g h:En->Res}{pos:Pos}
def Co:D->Bool
 |.non=>true
 |_=>false
def me:D->D->Option D
 |d,.non=>some (.bl (Co d))
 |.bl b,.bl c=>some (.bl (b==c))
 |.non,.bl _=>some (.bl false)
 |_,_=>none
noncomputable def jf:D->D->Option D
 |d,.non=>some (.bl (!Co d))
 |.bl b,.bl c=>some (.bl (!(b==c)))
 |.non,.bl _=>some (.bl true)
 |_,_=>none
def zt{K:KA}{G H:Hp}{d:D}{v:V}(h:Arg K G H d v):decide (v=.non)=Co d:=by
 rcases h with h|⟨ds,a,vs,rfl,rfl,_⟩|⟨t,kvs,a,rfl,rfl,_⟩
 ·cases d with
  |non=>cases (show v=.non from h);rfl
  |bl b=>cases (show v=.bl b from h);rfl
  |int b=>cases (show v=.int b from h);rfl
  |str b=>cases (show v=.str b from h);rfl
  |tup ds=>obtain⟨a,vs,rfl,_⟩:=h;rfl
  |lst ds=>obtain⟨a,vs,rfl,_⟩:=h;rfl
  |dct t kvs=>obtain⟨a,rfl,_⟩:=h;rfl
  |obj C fs=>obtain⟨a,vs,rfl,_⟩:=h;rfl
  |fn f=>cases (show v=.ref _ from h);rfl
 ·rfl
 ·rfl
def ED(f:Bool->Bool):R2:=λx y H Q=>(∃b c,x=.bl b/\y=.bl c/\Q (.bl (f (b==c))) H)\/∃c,x=.non/\y=.bl c/\Q (.bl (f false)) H
def KJ:OpR X (cF .Is) (ED id):=by
 intro pins s Z H x y v u Q I rx ry h;rcases h with ⟨b,c,rfl,rfl,q⟩|⟨c,rfl,rfl,q⟩
 ·cases rx;cases ry;exact wpAny_is_plain rfl ⟨.bl (b==c),H,I,(by cases b<;>cases c<;>rfl),q⟩
 ·cases rx;cases ry;exact wpAny_is_plain rfl ⟨.bl false,H,I,rfl,q⟩
def DS:OpR X (cF .IsNot) (ED λb=> !b):=by
 intro pins s Z H x y v u Q I rx ry h;rcases h with ⟨b,c,rfl,rfl,q⟩|⟨c,rfl,rfl,q⟩
 ·cases rx;cases ry;exact wpAny_isNot_plain rfl ⟨.bl (!(b==c)),H,I,(by cases b<;>cases c<;>rfl),q⟩
 ·cases rx;cases ry;exact wpAny_isNot_plain rfl ⟨.bl true,H,I,rfl,q⟩
def X6{K:KA}:ib K me (λx y H Q=>(y=.non/\Q (.bl (decide (x=.non))) H)\/ED id x y H Q):=λG H x y dx dy d sg ax ay ed Q q=>by
 unfold me at ed;split at ed
 ·cases ed;refine .inl ⟨ay.non,?_⟩;rw[zt ax];exact q _ G H (Ext.refl sg) rfl
 ·cases ed;exact .inr (.inl ⟨_,_,ax.bl,ay.bl,q _ G H (Ext.refl sg) rfl⟩)
 ·cases ed;exact .inr (.inr ⟨_,ax.non,ay.bl,q _ G H (Ext.refl sg) rfl⟩)
 ·cases ed
def Li{K:KA}:ib K jf (λx y H Q=>(y=.non/\Q (.bl (!decide (x=.non))) H)\/ED (λb=> !b) x y H Q):=λG H x y dx dy d sg ax ay ed Q q=>by
 unfold jf at ed;split at ed
 ·cases ed;refine .inl ⟨ay.non,?_⟩;rw[zt ax];exact q _ G H (Ext.refl sg) rfl
 ·cases ed;exact .inr (.inl ⟨_,_,ax.bl,ay.bl,q _ G H (Ext.refl sg) rfl⟩)
 ·cases ed;exact .inr (.inr ⟨_,ax.non,ay.bl,q _ G H (Ext.refl sg) rfl⟩)
 ·cases ed
def Wo(hf:f=me\/f=jf)(x y d:D)(h:f x y=some d):∃b,d=.bl b:=by
 rcases hf with rfl|rfl
 ·unfold me at h;split at h<;>first|(cases h;exact⟨_,rfl⟩)|cases h
 ·unfold jf at h;split at h<;>first|(cases h;exact⟨_,rfl⟩)|cases h
noncomputable def M4:CmpOp->Option (D->D->Option D)
 |.Eq=>some jw
 |.NotEq=>some dh
 |.Lt=>some mf
 |.LtE=>some Ob
 |.Gt=>some MG
 |.GtE=>some RS
 |.In=>some cg
 |.NotIn=>some cj
 |.Is=>some me
 |.IsNot=>some jf
def Gr(hf:M4 op=some f)(hu:X.A.units+65<eL):∃r,OpR X (cF op) r/\ib (kx X) f r/\∀x y d,f x y=some d->∃b,d=.bl b:=by
 cases op<;>cases hf
 ·exact⟨_,KM (by lia),DD,λ_ _ _ h=>Hu (f:=id) h⟩
 ·exact⟨_,KF (by lia),DA,λ_ _ _ h=>Hu (f:=λb=> !b) h⟩
 ·exact⟨_,QI,xw,Gs⟩
 ·exact⟨_,QJ,xw,Gs⟩
 ·exact⟨_,QK,xw,Gs⟩
 ·exact⟨_,QL,xw,Gs⟩
 ·exact⟨_,KI.or KJ,X6,Wo (.inl rfl)⟩
 ·exact⟨_,DR.or DS,Li,Wo (.inr rfl)⟩
 ·exact⟨_,(KL hu).or (Xi (by lia)),X5,JR⟩
 ·exact⟨_,(Td hu).or (Lf (by lia)),Lj,S9⟩
end
def og(ev:Ev)(C:SC)(e:Expr):En->Res:=match e with
 | .Name x _ => (match slot C x with
  |some i=>aa i
  |none=>ev C e)
 |_=>ev C e
noncomputable def JV(ev:Ev)(C:SC):List Bool->List Expr->En->ResL
 |[],[]=>ai
 |m::ms,e::es=>ae (if m then og ev C e else ev C e) (JV ev C ms es)
 |_,_=>JU
def rj(ev:Ev)(C:SC):List Expr->En->ResL
 |[]=>ai
 |e::es=>ae (ev C e) (rj ev C es)
noncomputable def D1(T:GT)(C:SC)(x:Str):En->Res:=match slot C x with
 |some i=>ao i
 | none => if Iz C x then (match T.gstr x with
  |some y=>gC (.str y)
  | none => (match T.fns x with
   |some _=>gC (.fn x)
   |none=>jx))else jx
def Kb(f:Expr->En->Res):List Expr->En->Res
 |[]=>jx
 |[a]=>f a
 |a::r=>nh (f a) (Kb f r)
def Wd(f:Expr->En->Res):List Expr->En->Res
 |[]=>jx
 |[a]=>f a
 |a::r=>Ad (f a) (Wd f r)
noncomputable def yg(ev:Ev)(C:SC)(l:Expr)(ops:List CmpOp)(rs:List Expr):En->Res:=match ops,rs with
 | [op], [r] => (match M4 op with
  |some f=>if rm r then g2 f (og ev C l) (og ev C r)else jx
  |none=>jx)
 | [op, op'], [m, r] => (match M4 op, M4 op' with
  |some f,some f'=>if rm r then ni f f' (og ev C l) (og ev C m) (og ev C r)else jx
  |_,_=>jx)
 |_,_=>jx
section
variable{T:GT}{ev tv:Ev}{X:Cx}{C:SC}{B:Hp}{E:XK}{pos:Pos}
def eu(h:jc T ev)(O:XOk X C T E)(e:Expr):lx X B (ek (kx X) E) e (og ev C e):=by
 have d:lx X B (ek (kx X) E) e (ev C e):=RZ (h X C B E e O);cases e with
 |Name x p=>
  show lx X B _ _ (match slot C x with
   |some i=>aa i
   |none=>ev C (.Name x p))
  cases es:slot C x with
  |none=>exact d
  |some i=>exact IW i (O.var es)
 |_=>exact d
theorem Bj(h:jc T ev)(O:XOk X C T E):∀{ms:List Bool}{es:List Expr},es.all ja=true->Rm X B (ek (kx X) E) ms es (JV ev C ms es)
 |[],[],_=>ji
 |[],_::_,_=>GL
 |_::_,[],_=>GL
 |m::ms,e::es,hs=>by
  rw[cS,aF]at hs;cases m with
  |true=>exact gw (eu h O e) (Bj h O hs.2) (bc hs.1)
  |false=>exact Bo (h X C B E e O) (Bj h O hs.2) (bc hs.1)
theorem qi(h:jc T ev)(O:XOk X C T E):∀{es:List Expr},es.all ja=true->Rm X B (ek (kx X) E) (es.map λ_=>false) es (rj ev C es)
 |[],_=>ji
 |e::es,hs=>by
  rw[cS,aF]at hs;exact Bo (h X C B E e O) (qi h O hs.2) (bc hs.1)
theorem my:∀{es:List Expr},Gi (es.map λ_=>false)=true
 |[]=>rfl
 |_::es=>by
  show(!false && Gi (es.map λ_=>false))=true;rw[my (es:=es)];rfl
def CG(O:XOk X C T E):gq X B (ek (kx X) E) (.Name x pos) (D1 T C x):=by
 unfold D1;cases es:slot C x with
 |some i=>exact MK i (O.var es)
 |none=>
  dsimp only
  by_cases hg:Iz C x=true
  ·rw[aG hg];obtain⟨g1,g2⟩:=O.gl hg;cases e1:T.gstr x with
   |some y=>
    obtain⟨t,q⟩:=O.gstr x y e1;exact ER g1 q g2
   |none=>
    cases e2:T.fns x with
    |some s=>
     obtain⟨k,f,fd,ps,_,q,_⟩:=O.fns x s e2;exact MV g1 q g2
    |none=>exact de
  ·rw[aJ hg];exact de
theorem Pg{E:EK}(h:∀e,gq X B E e (f e)):∀{vs:List Expr},gq X B E (.BoolOp .And vs pos) (Kb f vs)
 |[]=>de
 |[a]=>Yh (h a)
 |a::b::r=>MZ (h a) (Pg h (vs:=b::r))
theorem Xj{E:EK}(h:∀e,gq X B E e (f e)):∀{vs:List Expr},gq X B E (.BoolOp .Or vs pos) (Wd f vs)
 |[]=>de
 |[a]=>Yh (h a)
 |a::b::r=>RU (h a) (Xj h (vs:=b::r))
def HW{E:EK}{e:Expr}:AY X B E e jx:=λwh pins s Z H Q I ⟨G,U,R,q⟩=>q.elim
theorem Ph{E:EK}(h:∀e,Ea X B E e (f e)):∀{vs:List Expr},AY X B E (.BoolOp .And vs pos) (Kb f vs)
 |[]=>HW
 |[a]=>Yl (h a)
 |a::b::r=>EJ (h a) (Ph h (vs:=b::r))
theorem Xk{E:EK}(h:∀e,Ea X B E e (f e)):∀{vs:List Expr},AY X B E (.BoolOp .Or vs pos) (Wd f vs)
 |[]=>HW
 |[a]=>EH (h a)
 |a::b::r=>MI (h a) (Xk h (vs:=b::r))
def Vl(h:jc T ev)(O:XOk X C T E):gq X B (ek (kx X) E) (.Compare l ops rs pos) (yg ev C l ops rs)/\Ea X B (ek (kx X) E) (.Compare l ops rs pos) (yg ev C l ops rs):=by
 unfold yg;split
 ·rename_i op r;cases hf:M4 op with
  |none=>exact⟨de,Al⟩
  |some f=>
   dsimp only
   by_cases hs:rm r=true
   ·rw[aG hs];obtain⟨rr,h1,h2,h3⟩:=Gr (X:=X) hf O.units;exact⟨MW h1 h2 (eu h O l) (eu h O r) (tw hs),EW h1 h2 h3 (eu h O l) (eu h O r) (tw hs)⟩
   ·rw[aJ hs];exact⟨de,Al⟩
 ·rename_i op op' m r;cases hf:M4 op with
  |none=>exact⟨de,Al⟩
  |some f=>
   cases hf':M4 op' with
   |none=>exact⟨de,Al⟩
   |some f'=>
    dsimp only
    by_cases hs:rm r=true
    ·rw[aG hs];obtain⟨rr,h1,h2,h3⟩:=Gr (X:=X) hf O.units;obtain⟨rr',h1',h2',h3'⟩:=Gr (X:=X) hf' O.units;exact⟨Yf h1 h2 h1' h2' (eu h O l) (eu h O m) (eu h O r) (Dc hs),Tn h1 h2 h1' h2' h3' (eu h O l) (eu h O m) (eu h O r) (Dc hs)⟩
    ·rw[aJ hs];exact⟨de,Al⟩
 ·exact⟨de,Al⟩
end
section
variable{X:Cx}{pins:List (Addr×Obj)}{Z:St}{G H:Hp}{s:aI}{B:Hp}{E:EK}{e a b:Expr}{g h:En->Res}{pos p:Pos}
def jh:List D->Option (List Bool)
 |[]=>some []
 |.bl b::r=>(jh r).map (b::·)
 |_::_=>none
theorem r8{K:KA}:∀{ds:List D}{bs:List Bool}{vs:List V}{us:List aC},jh ds=some bs->DenL K G ds vs->Vals vs us->us=bs.map lB
 |[],bs,vs,us,h,d,r=>by cases h;cases (show vs=[]from d);cases r;rfl
 |d::ds,bs,vs,us,h,dl,r=>by
  obtain⟨v,vr,rfl,dv,dr⟩:=dl;cases d with
  |bl b=>
   unfold jh at h;cases e:jh ds with
   |none=>rw[e]at h;cases h
   |some bs'=>
    rw[e]at h;cases h;cases r with
    |cons r1 rr=>
     cases (show v=.bl b from dv);cases (show _=lB b from r1);rw[aV,r8 e dr rr]
  |_=>cases h
def u4(bs:List Bool)(f:List Bool->(Nat->Bool))(hf:f=λbs i=>bs.getD i false):(aW bs.length).all (f bs)=bs.all id/\(aW bs.length).any (f bs)=bs.any id:=by
 subst hf;have e:(aW bs.length).map (λi=>bs.getD i false)=bs:=by
  apply List.ext_getElem
  ·simp
  ·intro i h1 h2;simp[bR,h2]
 constructor
 ·have:=congrArg (λl=>l.all id) e;simp only[List.all_map]at this;simpa[Function.comp_def]using this
 ·have:=congrArg (λl=>l.any id) e;simp only[List.any_map]at this;simpa[Function.comp_def]using this
def HU(K:KA)(an:Bool):List V->Hp->VK->Prop:=λxs H Q=>∃G l vs ds bs,xs=[.ref l]/\SqL K H l vs/\DenL K G ds vs/\jh ds=some bs/\Q (.bl (if an then bs.any id else bs.all id)) H
def zz{bs:List Bool}{items:Array aC}(e:items.toList=bs.map lB):TruthOf prog w A (λi v=>items[i]?=some v) (λi=>bs.getD i false):=by
 intro i v s Q E hv hQ;have hv':items.toList[i]?=some v:=by simpa using hv
 rw[e,bM]at hv';cases eb:bs[i]? with
 |none=>rw[eb]at hv';cases hv'
 |some b=>
  rw[eb]at hv';cases hv';have hQ':Q (bs.getD i false) s:=hQ;rw[bR,eb]at hQ';exact dX hQ'
def Rv(hc:X.calm=true):CallR X (.builtin "all") (HU (kx X) false):=by
 intro pins s Z H xs us Q I r q;obtain⟨G,l,vs,ds,bs,rfl,sq,dl,eb,q⟩:=q;obtain⟨u,rfl,ru⟩:=mh r;cases ru;obtain⟨its,rv,pl,_⟩:=I.list sq;have e:=r8 eb dl rv;have hl:l<s.heap.objs.size:=by obtain⟨o,ho,_⟩:=pl.isList;exact aT ho
 have W:=Walks.list (prog:=X.prog) (w:=X.w) (A:=X.A.in1) (show X.A.in1.handled=none from I.ok.hd hc) s.heap.objs.size l (bJ hl) its.toArray;refine call_all_walk (fB pl.isList ⟨s.heap.objs.size,_,_,_,_,_,λi=>bs.getD i false,rfl,W,⟨⟨_,aX _ rfl,rfl,rfl⟩,pl.isList.at λo ho=>aD _ ho⟩,zz (by simpa using e),λh' tk hk=>?_⟩);refine⟨.bl _,H,I.kept λb o e=>hk b o (by simpa using bJ (aT e)) (aD _ e),?_,q⟩;have hsz:its.toArray.size=bs.length:=by rw[bC,e,aO]
 rw[hsz,(u4 bs _ rfl).1];rfl
def Rw(hc:X.calm=true):CallR X (.builtin "any") (HU (kx X) true):=by
 intro pins s Z H xs us Q I r q;obtain⟨G,l,vs,ds,bs,rfl,sq,dl,eb,q⟩:=q;obtain⟨u,rfl,ru⟩:=mh r;cases ru;obtain⟨its,rv,pl,_⟩:=I.list sq;have e:=r8 eb dl rv;have hl:l<s.heap.objs.size:=by obtain⟨o,ho,_⟩:=pl.isList;exact aT ho
 have W:=Walks.list (prog:=X.prog) (w:=X.w) (A:=X.A.in1) (show X.A.in1.handled=none from I.ok.hd hc) s.heap.objs.size l (bJ hl) its.toArray;refine call_any_walk (fB pl.isList ⟨s.heap.objs.size,_,_,_,_,_,λi=>bs.getD i false,rfl,W,⟨⟨_,aX _ rfl,rfl,rfl⟩,pl.isList.at λo ho=>aD _ ho⟩,zz (by simpa using e),λh' tk hk=>?_⟩);refine⟨.bl _,H,I.kept λb o e=>hk b o (by simpa using bJ (aT e)) (aD _ e),?_,q⟩;have hsz:its.toArray.size=bs.length:=by rw[bC,e,aO]
 rw[hsz,(u4 bs _ rfl).2];rfl
def t6:D->Option D
 |.lst ds=>(jh ds).map λbs=>.bl (bs.all id)
 |_=>none
def vj:D->Option D
 |.lst ds=>(jh ds).map λbs=>.bl (bs.any id)
 |_=>none
def LA(hc:X.calm=true)(hg:Gl X "all")(hm:X.mg "all"=none)(ha:lx X B E e g)(he:bE [e] X.env=(false,eval e X.env)::bE [] X.env):gq X B E (.Call (.Name "all" p) [e] [] pos) (g1 t6 g):=
 PE.imp (nu (Rv hc) hg hm PyProof.Rows.boot_all (gw ha ji he) (by decide) (by decide) he rfl) λZ H Q q=>IP (λG H x dx d sg ax ed Q q=>by
  cases dx with
  |lst ds=>
   unfold t6 at ed;dsimp only at ed;cases eb:jh ds with
   |none=>rw[eb]at ed;cases ed
   |some bs=>
    rw[eb]at ed;cases ed;obtain⟨l,vs,rfl,sq,dl⟩:=ax.lst sg;exact⟨G,l,vs,ds,bs,rfl,sq,dl,eb,q _ G H (Ext.refl sg) rfl⟩
  |_=>cases ed) q
def MY(hc:X.calm=true)(hg:Gl X "any")(hm:X.mg "any"=none)(ha:lx X B E e g)(he:bE [e] X.env=(false,eval e X.env)::bE [] X.env):gq X B E (.Call (.Name "any" p) [e] [] pos) (g1 vj g):=
 PE.imp (nu (Rw hc) hg hm PyProof.Rows.boot_any (gw ha ji he) (by decide) (by decide) he rfl) λZ H Q q=>IP (λG H x dx d sg ax ed Q q=>by
  cases dx with
  |lst ds=>
   unfold vj at ed;dsimp only at ed;cases eb:jh ds with
   |none=>rw[eb]at ed;cases ed
   |some bs=>
    rw[eb]at ed;cases ed;obtain⟨l,vs,rfl,sq,dl⟩:=ax.lst sg;exact⟨G,l,vs,ds,bs,rfl,sq,dl,eb,q _ G H (Ext.refl sg) rfl⟩
  |_=>cases ed) q
end
def Y4(x:Str):List D:=x.cps.toList.map λc=>.str ⟨#[c]⟩
def TM(x:Str):It:=⟨λi _=>i<x.cps.size,λi H v H'=>H'=H/\∃c,x.cps[i]?=some c/\v=.str ⟨#[c]⟩,λi _=>x.cps.size<=i⟩
def O6{P:bQ}{w:bZ}{K:aU}{tg:Expr}(it:Addr)(x:Str)(t:Tok):Turn P w K tg (TM x) [it] it (λi h=>h.IsStrIter it "str_ascii_iterator" x t i) where
 mem:=by simp
 obj:=λi h st b hb=>by
  have e:b=it:=by simpa using hb
  subst e;obtain⟨o,e,c,d⟩:=st;exact⟨o,e,λv z=>by rw[d]at z;cases z⟩
 keep:=λi h h' st k=>let ⟨o,ho,r⟩:=st;⟨o,k it (by simp) o ho,r⟩
 item:=by
  intro X hP hw hK hc i pins s Z H E I hf st hg;subst hP hw hK;obtain⟨f0,f1,f2,f3,f4,f5⟩:=hf it (by simp);have hg':i<x.cps.size:=hg;refine wpAny_pyNext_ascii_item st (c:=x.cps[i]) (by simp[hg']) λh' st' sb=>?_;have I1:Inv X pins Z H {s with heap:=h',toks:=s.toks+1}:=I.turned (t':=s.toks+1) (λb o hb e=>(sb.2 b hb).trans e) f0 f1 f3 f4 f5;obtain⟨o,e,c,d⟩:=id st';exact⟨_,rfl,Ki (s:={s with heap:=h',toks:=s.toks+1}) e c d (by decide) ⟨.str ⟨#[x.cps[i]]⟩,H,I1,⟨_,rfl⟩,⟨rfl,_,by simp[hg'],rfl⟩,st',λb hb=>(hf b hb).1⟩⟩
 done:=by
  intro X hP hw hK hc i pins s Z H E I hf st hg;subst hP hw hK;obtain⟨f0,f1,f2,f3,f4,f5⟩:=hf it (by simp);have hg':x.cps.size<=i:=hg;exact wpAny_pyNext_ascii_end (I.ok.hd hc) st (by simp[hg']) λh' eb=>⟨rfl,I.turned (t':=s.toks) (λb o hb e=>eb b o hb e) f0 f1 f3 f4 f5⟩
 self:=λ_ _ _ _ _ st h=>wpAny_pyIter_striter_ascii st h
def Ui{P:bQ}{w:bZ}{K:aU}{tg:Expr}(it:Addr)(x:Str)(t:Tok):Turn P w K tg (TM x) [it] it (λi h=>h.IsStrIter it "str_iterator" x t i) where
 mem:=by simp
 obj:=λi h st b hb=>by
  have e:b=it:=by simpa using hb
  subst e;obtain⟨o,e,c,d⟩:=st;exact⟨o,e,λv z=>by rw[d]at z;cases z⟩
 keep:=λi h h' st k=>let ⟨o,ho,r⟩:=st;⟨o,k it (by simp) o ho,r⟩
 item:=by
  intro X hP hw hK hc i pins s Z H E I hf st hg;subst hP hw hK;obtain⟨f0,f1,f2,f3,f4,f5⟩:=hf it (by simp);have hg':i<x.cps.size:=hg;refine wpAny_pyNext_wide_item st (c:=x.cps[i]) (by simp[hg']) λh' st' sb=>?_;have I1:Inv X pins Z H {s with heap:=h',toks:=s.toks+1}:=I.turned (t':=s.toks+1) (λb o hb e=>(sb.2 b hb).trans e) f0 f1 f3 f4 f5;obtain⟨o,e,c,d⟩:=id st';exact⟨_,rfl,Ki (s:={s with heap:=h',toks:=s.toks+1}) e c d (by decide) ⟨.str ⟨#[x.cps[i]]⟩,H,I1,⟨_,rfl⟩,⟨rfl,_,by simp[hg'],rfl⟩,st',λb hb=>(hf b hb).1⟩⟩
 done:=by
  intro X hP hw hK hc i pins s Z H E I hf st hg;subst hP hw hK;obtain⟨f0,f1,f2,f3,f4,f5⟩:=hf it (by simp);have hg':x.cps.size<=i:=hg;exact wpAny_pyNext_wide_end (I.ok.hd hc) st (by simp[hg']) λh' eb=>⟨rfl,I.turned (t':=s.toks) (λb o hb e=>eb b o hb e) f0 f1 f3 f4 f5⟩
 self:=λ_ _ _ _ _ st h=>wpAny_pyIter_striter_wide st h
def Wr{K:KA}{x:Str}{S:Hp->Hp->Prop}:Aq K (TM x) (Y4 x) S:=λi G H hS sg=>by
 unfold Y4;refine⟨λd ed=>?_,λhl=>?_⟩
 ·rw[bM]at ed;cases e:x.cps.toList[i]? with
  |none=>rw[e]at ed;cases ed
  |some c=>
   rw[e]at ed;cases ed;have hi:i<x.cps.size:=by simpa using(List.getElem?_eq_some_iff.mp e).1
   refine⟨hi,λv H' ⟨z,c',ec,ev⟩=>?_⟩;subst z;have:x.cps.toList[i]?=some c':=by simpa using ec
   rw[e]at this;cases this;exact⟨G,Ext.refl sg,ev⟩
 ·rw[aO]at hl;show x.cps.size<=i;simpa using hl
section
variable{X:Cx}{G0 B:Hp}{E:EK}{e a b c tg iter:Expr}{g h:En->Res}{pos p:Pos}
def PB(K:aU)(tl:TE):TI:=λZ H R=>tl Z H λx H1=>(∃a,x=.ref a/\(((∃xs,SqL K H1 a xs)/\R (VB K a) H1)\/((∃xs,SqT K H1 a xs)/\R (VA K a) H1)))\/∃z,x=.str z/\R (TM z) H1
def Qw{l:Expr}{tl:TE}(hl:PE X l tl):PI X tg l (PB X.K tl):=by
 intro pins s Z H R I h;refine i7 (hl pins s Z H _ I h) λv s1 ⟨x,H1,I1,r1,q1⟩=>?_;rcases q1 with ⟨a,e,⟨⟨xs,hq⟩,q⟩|⟨⟨xs,hq⟩,q⟩⟩|⟨z,e,q⟩
 ·subst e;cases r1;obtain⟨its,rv,p,hz⟩:=I1.list hq;refine fB p.isList ?_;refine⟨s1.heap.objs.size,[s1.heap.objs.size],_,_,H1,rfl,I1.kept (t':=s1.toks) λb o e=>aD _ e,Uh a _,⟨_,aX _ rfl,rfl,rfl⟩,λb hb=>?_,q⟩;have e:b=s1.heap.objs.size:=by simpa using hb
  subst e;exact I1.fpOk (aH _) (I1.hok.fresh (aH _))
 ·subst e;cases r1;obtain⟨its,rv,p,hz⟩:=I1.tuple hq;refine wpAny_pyIter_tuple (show s1.heap.IsTuple a its.toArray from p) ?_;refine⟨s1.heap.objs.size,[s1.heap.objs.size],_,_,H1,rfl,I1.kept (t':=s1.toks) λb o e=>aD _ e,O8 a _,⟨_,aX _ rfl,rfl,rfl⟩,λb hb=>?_,q⟩;have e:b=s1.heap.objs.size:=by simpa using hb
  subst e;exact I1.fpOk (aH _) (I1.hok.fresh (aH _))
 ·subst e;obtain⟨t,rfl⟩:=r1;cases ha:z.cps.all (· <128)
  ·refine wpAny_pyIter_wide ha ⟨s1.heap.objs.size,[s1.heap.objs.size],_,_,H1,rfl,I1.kept (t':=s1.toks) λb o e=>aD _ e,Ui _ z t,⟨_,aX _ rfl,rfl,rfl⟩,λb hb=>?_,q⟩;have e:b=s1.heap.objs.size:=by simpa using hb
   subst e;exact I1.fpOk (aH _) (I1.hok.fresh (aH _))
  ·refine wpAny_pyIter_ascii ha ⟨s1.heap.objs.size,[s1.heap.objs.size],_,_,H1,rfl,I1.kept (t':=s1.toks) λb o e=>aD _ e,O6 _ z t,⟨_,aX _ rfl,rfl,rfl⟩,λb hb=>?_,q⟩;have e:b=s1.heap.objs.size:=by simpa using hb
   subst e;exact I1.fpOk (aH _) (I1.hok.fresh (aH _))
def Gf:D->Option (List D)
 |.lst ds=>some ds
 |.tup ds=>some ds
 |.str x=>some (Y4 x)
 |_=>none
noncomputable def ba(g:En->Res):En->ResL:=λU=>match g U with
 | .ok d => (match Gf d with
  |some ds=>.ok ds
  |none=>.st)
 |.er c=>.er c
 |.st=>.st
def HF(q:ResLP E G H (ba g U) P):ResP E G H (g U) λd=>∃ds,Gf d=some ds/\P ds:=by
 unfold ba at q;cases e:g U with
 |ok d=>
  rw[e]at q;dsimp only at q;cases e2:Gf d with
  |some ds=>rw[e2]at q;exact⟨ds,e2,q⟩
  |none=>rw[e2]at q;exact q.elim
 |er c=>rw[e]at q;exact q
 |st=>rw[e]at q;exact q
def Xy(h:GP X B E e g):AR X B E tg e (ba g):=PI.imp (Qw h) λZ H R ⟨G,U,Rr,q⟩=>⟨G,U,Rr,(HF q).mono λd _ ⟨ds,ed,q⟩ v G1 H1 e1 ax=>by
 have bh:Same B H1:=Rr.bh.trans e1.hh;cases d with
 |lst ds'=>
  cases ed;rcases ax with ⟨a,vs,rfl,s,dl⟩|⟨ds2,a,vs,z,rfl,s,dl⟩|⟨t,kvs,a,z,_⟩
  ·exact .inl ⟨a,rfl,.inl ⟨⟨vs,SqL.mono e1.gh s⟩,q _ G1 H1 e1 (Nt (λG2 H2 ⟨x1,x2⟩ sg=>⟨SqL.mono (x1.trans sg) s,x1⟩) dl)⟩⟩
  ·cases z;exact .inl ⟨a,rfl,.inl ⟨⟨vs,SqL.mono bh s⟩,q _ G1 H1 e1 (Nt (λG2 H2 ⟨x1,x2⟩ sg=>⟨SqL.mono x2 s,x1⟩) dl)⟩⟩
  ·cases z
 |tup ds'=>
  cases ed;rcases ax with ⟨a,vs,rfl,s,dl⟩|⟨ds2,a,vs,z,rfl,s,dl⟩|⟨t,kvs,a,z,_⟩
  ·exact .inl ⟨a,rfl,.inr ⟨⟨vs,SqT.of (e1.gh _ _ s)⟩,q _ G1 H1 e1 (Ws (λG2 H2 ⟨x1,x2⟩ sg=>⟨SqT.of ((x1.trans sg) _ _ s),x1⟩) dl)⟩⟩
  ·cases z
  ·cases z
 |str z=>cases ed;exact .inr ⟨z,ax.str,q _ G1 H1 e1 Wr⟩
 |non=>cases ed
 |bl _=>cases ed
 |int _=>cases ed
 |dct _ _=>cases ed
 |obj _ _=>cases ed
 |fn _=>cases ed⟩
def Qx(h:lx X B E e g):Rn X B E tg e (ba g):=PI.imp (Qw h) λZ H R ⟨G,U,Rr,q⟩=>⟨G,U,Rr,(HF q).mono λd _ ⟨ds,ed,q⟩ v G1 H1 e1 ax=>by
 cases d with
 |lst ds'=>
  cases ed;obtain⟨a,vs,rfl,s,dl⟩:=ax.lst e1.gh;exact .inl ⟨a,rfl,.inl ⟨⟨vs,s⟩,q _ G1 H1 e1 (Nt (λG2 H2 x sg=>⟨SqL.mono x.hh s,x.gg⟩) dl)⟩⟩
 |tup ds'=>
  cases ed;obtain⟨a,vs,rfl,s,dl⟩:=ax.tup e1.gh;exact .inl ⟨a,rfl,.inr ⟨⟨vs,s⟩,q _ G1 H1 e1 (Ws (λG2 H2 x sg=>⟨SqT.mono x.hh s,x.gg⟩) dl)⟩⟩
 |str z=>cases ed;exact .inr ⟨z,ax.str,q _ G1 H1 e1 Wr⟩
 |non=>cases ed
 |bl _=>cases ed
 |int _=>cases ed
 |dct _ _=>cases ed
 |obj _ _=>cases ed
 |fn _=>cases ed⟩
end
section
variable{X:Cx}{G0 B:Hp}{E:EK}{e a b c tg iter:Expr}{g h:En->Res}{pos p:Pos}
def gM(f:D->D->Option D)(g h:En->Res):En->Res:=λU=>(g U).bind λx=>match x with
 |.lst xs=>(h U).bind λy=>Res.of (f (.lst xs) y)
 |_=>.st
noncomputable def lg:D->D->Option D
 |.int i,.int j=>if(-(2 ^ 64)<i/\i<2 ^ 64)\/(-(2 ^ 64)<j/\j<2 ^ 64)then some (.int (i * j))else none
 |_,_=>none
theorem Jv{K:KA}{G:Hp}{ds:List D}{vs:List V}(dl:DenL K G ds vs):∀n:Nat,DenL K G (aM n ds).flatten (aM n vs).flatten
 |0=>rfl
 |n+1=>by
  rw[fG,fR,fG,fR];exact dl.append (Jv dl n)
def RK(K:KA):R2:=λx y H Q=>∃G dx dy d,Same G H/\Arg K G H dx x/\Arg K G H dy y/\lg dx dy=some d/\∀v G' H',Ext G H G' H'->Den K G' d v->Q v H'
def DT:OpR X (gR .Mult) (RK (kx X)):=by
 intro pins s Z H x y v u Q I rx ry q;obtain⟨G,dx,dy,d,sg,ax,ay,ed,q⟩:=q;unfold lg at ed;split at ed
 ·split at ed
  ·rename_i hc;cases ed;rw[ax.int]at rx;rw[ay.int]at ry;exact KG pins s Z H _ _ _ _ Q I rx ry ⟨_,_,rfl,rfl,hc,q _ G H (Ext.refl sg) rfl⟩
  ·cases ed
 ·cases ed
def MQ(ha:lx X B E a g)(hb:lx X B E b h):gq X B E (.BinOp a .Mult b pos) (g2 lg g h):=Lk DT (λG H x y dx dy d sg ax ay ed Q q=>⟨G,dx,dy,d,sg,ax,ay,ed,q⟩) ha hb
def Kh(g h:En->Res):En->Res:=λU=>(g U).bind λx=>(h U).bind λy=>match x,y with
 |.lst xs,.int n=>if xs.length * n.toNat<=aQ/\-(2 ^ 20)<=n/\n<2 ^ 20 then .ok (.lst (aM n.toNat xs).flatten)else .st
 |_,_=>.st
def Xo(ha:Ut X B E a g)(hil:IsL g)(hb:lx X B E b h):Ut X B E (.BinOp a .Mult b pos) (Kh g h):=
 PE.imp (HX KD ha hb) λZ H Q ⟨G,U,R,q⟩=>⟨G,U,R,(ResP.bind q).mono λdx edx qx=>by
  obtain⟨xs,rfl⟩:=hil U dx edx
  ·refine⟨xs,rfl,λl vs G1 H1 e1 hn gn hl dl=>⟨G1,U,R.ext e1,((ResP.bind qx).ext e1).mono λdy _ qy y G2 H2 e2 ay=>?_⟩⟩;cases dy with
   |int n=>
    dsimp only at qy;split at qy
    ·rename_i hc;obtain⟨ds,ed,qd⟩:=qy;cases ed;have e12:=e1.trans e2;refine⟨l,n,vs,rfl,ay.int,e2.hh _ _ hl,by lia,by lia,by rw[<-dl.length];exact hc.1,λp hp=>?_⟩;exact qd p _ G2 _ (e12.trans (Ext.own e2.gh _ hp)) (gm e12.hh hp) (gm e2.gh hp) ar (Jv (dl.mono e2.gg) n.toNat)
    ·exact qy.elim
   |_=>exact qy.elim⟩
def BJ:IsL (Kh g h):=λU d e=>by
 unfold Kh at e;cases e1:g U with
 |er c=>rw[e1]at e;cases e
 |st=>rw[e1]at e;cases e
 |ok x=>
  rw[e1]at e;cases e2:h U with
  |er c=>rw[e2]at e;cases e
  |st=>rw[e2]at e;cases e
  |ok y=>
   rw[e2]at e;cases x with
   |lst xs=>
    cases y with
    |int n=>
     have e:(if xs.length * n.toNat<=aQ/\-(2 ^ 20)<=n/\n<2 ^ 20 then Res.ok (.lst (aM n.toNat xs).flatten)else .st)=.ok d:=e;split at e
     ·cases e;exact⟨_,rfl⟩
     ·cases e
    |_=>cases e
   |_=>cases e
end
inductive ResE where
 |ok (d:D) (U:En)
 |er (c:Str)
 |st
def Jb(K:KA)(G0 B:Hp)(E:EK)(G:Hp)(Z:St)(r:ResE)(P:D->Hp->Hp->En->Prop):Prop:=match r with
 |.ok d δ'=>∀G' H',Same G G'->EnvR K B G' H' Z δ'->Ext G0 B G' H'->P d G' H' δ'
 |.er c=>∀G' H',Ext G0 B G' H'->E c H'
 |.st=>False
def YR(K:KA)(G0 B:Hp)(E:EK)(g:En->ResE):TE:=λZ H Q=>∃G U,EnvR K B G H Z U/\Ext G0 B G H/\Jb K G0 B E G Z (g U) λd G' H' _=>∀v,Den K G' d v->Q v H'
abbrev AU(X:Cx)(G0 B:Hp)(E:EK)(e:Expr)(g:En->ResE):Prop:=PE X e (YR (kx X) G0 B E g)
def Res.ef(r:Res)(U:En):ResE:=match r with
 |.ok d=>.ok d U
 |.er c=>.er c
 |.st=>.st
def Wf(g:En->Res):En->ResE:=λU=>(g U).ef U
section
variable{X:Cx}{G0 B:Hp}{E:EK}{e a b c tg iter:Expr}{g h k:En->Res}{f:En->ResE}{pos p:Pos}{ss tt:List Stmt}{F1 F2:En->Out}
def YD{K:KA}{G H:Hp}{Z:St}{U:En}{r:Res}{P:D->Hp->Hp->En->Prop}(R:EnvR K B G H Z U)(x:Ext G0 B G H)(q:Jb K G0 B E G Z (r.ef U) P):ResP E G H r λd=>∀G' H',Ext G H G' H'->P d G' H' U:=by
 cases r with
 |ok d=>exact λG' H' e=>q G' H' e.gg (R.ext e) (x.trans e)
 |er c=>exact λG' H' e=>q G' H' (x.trans e)
 |st=>exact q
def P0(h:gq X B E e g):AU X G0 B E e (Wf g):=PE.imp h λZ H Q ⟨G,U,R,x,q⟩=>⟨G,U,R,(YD R x q).mono λd _ q v G' H' e dn=>q G' H' e v dn⟩
def Wc(c:En->Res)(f1 f2:En->ResE):En->ResE:=λU=>match c U with
 |.ok (.bl true)=>f1 U
 |.ok (.bl false)=>f2 U
 |.ok _=>.st
 |.er c=>.er c
 |.st=>.st
def Vx(hc:Ea X B E c g)(h1:AU X G0 B E a f1)(h2:AU X G0 B E b f2):AU X G0 B E (.IfExp c a b pos) (Wc g f1 f2):=
 PE.imp (Lh hc h1 h2) λZ H Q ⟨G,U,R,x,q⟩=>⟨G,U,R,by
  unfold Wc at q;cases eg:g U with
  |er c=>rw[eg]at q;exact λG' H' e=>q G' H' (x.trans e)
  |st=>rw[eg]at q;exact q
  |ok d=>
   rw[eg]at q;cases d with
   |bl t=>
    cases t with
    |true=>
     refine⟨true,rfl,λG1 H1 e1=>⟨G1,U,R.ext e1,x.trans e1,?_⟩⟩;dsimp only at q;cases ef:f1 U with
     |ok d δ'=>rw[ef]at q;exact λG' H' s=>q G' H' (e1.gg.trans s)
     |er c=>rw[ef]at q;exact q
     |st=>rw[ef]at q;exact q
    |false=>
     refine⟨false,rfl,λG1 H1 e1=>⟨G1,U,R.ext e1,x.trans e1,?_⟩⟩;dsimp only at q;cases ef:f2 U with
     |ok d δ'=>rw[ef]at q;exact λG' H' s=>q G' H' (e1.gg.trans s)
     |er c=>rw[ef]at q;exact q
     |st=>rw[ef]at q;exact q
   |_=>exact q.elim⟩
def ot(i:Nat)(f:En->ResE):En->Out:=λU=>match f U with
 |.ok d δ'=>.nx (δ'.set i (.pu d))
 |.er c=>.er c
 |.st=>.st
def NX(hs:PS X (.Assign [.Name x pos'] e pos) (Ua (YR (kx X) G0 B E f) (vb i))):u3 X G0 B E (.Assign [.Name x pos'] e pos) (ot i f):=
 PS.imp hs λD Z H ⟨G,U,R,x,q⟩=>⟨G,U,R,x,by
  unfold ot at q;cases ef:f U with
  |er c=>rw[ef]at q;exact q
  |st=>rw[ef]at q;exact q
  |ok d δ'=>
   rw[ef]at q;intro G1 H1 s1 R1 x1 v dn;exact q _ G1 H1 s1 (R1.set dn) x1⟩
end
section
variable{X:Cx}{G0 B:Hp}{E:EK}{e a b c tg iter:Expr}{g h k:En->Res}{f:En->ResE}{pos p:Pos}
def fh:D->Option D
 |.lst ds=>some (.lst ds)
 |.tup ds=>some (.lst ds)
 |_=>none
def Lg(hc:X.calm=true)(hg:Gl X "list")(hm:X.mg "list"=none)(ha:lx X B E e g)(hn:ja e=true):Ut X B E (.Call (.Name "list" p) [e] [] pos) (g1 fh g):=
 PE.imp (mw Gp hg hm PyProof.Rows.boot_list (gw ha ji (bc hn)) (by decide) (by decide) (bc hn) rfl) λZ H Q ⟨G,U,R,q⟩=>⟨G,U,R,by
  unfold ae;unfold g1 at q;cases e:g U with
  |er c=>rw[e]at q;exact q
  |st=>rw[e]at q;exact q
  |ok dx=>
   rw[e]at q;obtain⟨d,ed,ds,e2,qd⟩:=ResP.of (show ResP E G H (Res.of (fh dx)) _ from q);subst e2;intro vs G1 H1 e1 al;obtain⟨v,rfl,ax⟩:=ArgsM.one al;unfold fh at ed;split at ed
   ·cases ed;obtain⟨l,vs,rfl,sq,dl⟩:=ax.lst e1.gh;exact⟨l,vs,rfl,.inl sq,λp hp=>qd p vs G1 _ (e1.trans (Ext.own e1.gh _ hp)) (gm e1.hh hp) (gm e1.gh hp) ar dl⟩
   ·cases ed;obtain⟨l,vs,rfl,sq,dl⟩:=ax.tup e1.gh;exact⟨l,vs,rfl,.inr sq,λp hp=>qd p vs G1 _ (e1.trans (Ext.own e1.gh _ hp)) (gm e1.hh hp) (gm e1.gh hp) ar dl⟩
   ·cases ed⟩
def Sx:IsL (g1 fh g):=λU d h=>by
 unfold g1 at h;cases e:g U with
 |er c=>rw[e]at h;cases h
 |st=>rw[e]at h;cases h
 |ok dx=>
  rw[e]at h;have h':Res.of (fh dx)=.ok d:=h;unfold fh at h';split at h'
  ·cases h';exact⟨_,rfl⟩
  ·cases h';exact⟨_,rfl⟩
  ·cases h'
end
section
variable{X:Cx}{G0 B:Hp}{E:EK}{e a b:Expr}{es:List Expr}{g h k:En->Res}{pos p:Pos}
def RX:gq X B E (.Dict [] [] pos) (gC (.dct false [])):=
 PE.imp Xt λZ H Q ⟨G,U,R,q⟩ p hp=>q (.ref p) (upd G p (.dK [])) _ (Ext.new R.gh _ hp) ⟨p,rfl,.inl ⟨rfl,[],ar,rfl⟩⟩
def MB(i:Nat)(g:En->Res):En->Out:=λU=>(g U).then λd=>match d with
 |.dct false kvs=>.nx (U.set i (.od false kvs))
 |_=>.st
end
def An:Nat->Nat->List (List Nat)
 |0,_=>[[]]
 |n+1,m=>An n (m+1)++(An n (m+1)).map (m::·)
def riseF(m:Nat):List Nat->Prop
 |[]=>True
 |k::r=>m<=k/\k<6/\riseF (k+1) r
theorem pj:∀(n m:Nat)(S:List Nat),m+n=6->riseF m S->S∈An n m
 |0,m,[],_,_=>by simp[An]
 |0,m,k::r,e,⟨h1,h2,_⟩=>by lia
 |n+1,m,[],e,h=>by
  unfold An;exact bW _ (pj n (m+1) [] (by lia) trivial)
 |n+1,m,k::r,e,⟨h1,h2,h3⟩=>by
  unfold An
  by_cases z:k=m
  ·subst z;exact bT _ (List.mem_map.mpr ⟨r,pj n (k+1) r (by lia) h3,rfl⟩)
  ·exact bW _ (pj n (m+1) (k::r) (by lia) ⟨by lia,h2,h3⟩)
def k9(k:Nat):List Nat->List Nat
 |[]=>[k]
 |a::r=>if k<a then k::a::r else if k=a then a::r else a::k9 k r
theorem y8{k:Nat}(hk:k<6):∀{S:List Nat}{m:Nat},m<=k->riseF m S->riseF m (k9 k S)
 |[],m,h,_=>⟨h,hk,trivial⟩
 |a::r,m,h,⟨h1,h2,h3⟩=>by
  unfold k9;split
  ·rename_i z;exact⟨h,hk,z,h2,h3⟩
  ·split
   ·exact⟨h1,h2,h3⟩
   ·exact⟨h1,h2,y8 hk (by lia) h3⟩
theorem K3{k x:Nat}:∀{S:List Nat},x∈k9 k S↔x=k\/x∈S
 |[]=>by simp[k9]
 |a::r=>by
  unfold k9;split
  ·simp
  ·split
   ·rename_i z;subst z;simp
   ·rw[dU,K3,dU];constructor
    ·rintro (h|h|h)
     ·exact .inr (.inl h)
     ·exact .inl h
     ·exact .inr (.inr h)
    ·rintro (h|h|h)
     ·exact .inr (.inl h)
     ·exact .inl h
     ·exact .inr (.inr h)
def wc(ns:List Int):List Nat:=ns.foldl (λS n=>k9 n.toNat S) []
def ml(S:List Nat)(led:Bool):cY:={mask:=if S.length<5 then 7 else 31,place:=S.toArray,dummies:=#[],finger:=0,led,moves:=if S.length<5 then 0 else 1,plain:=true}
def A0(k:Nat)(S:List Nat):Nat:=(S.filter λa=>decide (a<k)).length
def zc(k:Nat)(S:List Nat)(led:Bool):cY:={ml S led with place:=(k9 k S).toArray}
def Gq(S:List Nat)(k:Nat)(led:Bool):Bool:=
 decide ((ml S led).freeSlot (k:Int)=some (k,false)) && decide ((ml S led).put k=(zc k S led,A0 k S)) && decide ((zc k S led).fits (S.length+1)=true) &&
 (if(zc k S led).tooFull then decide ((zc k S led).relaid ((k9 k S).map jD).toArray (SetTable.grown (S.length+1))=some (ml (k9 k S) led,oX (S.length+1)))else decide (zc k S led=ml (k9 k S) led)) &&
 decide ((ml S led).fits S.length=true)
def IM:Bool:=(An 6 0).all λS=>(aW 6).all λk=>S.contains k||(Gq S k true && Gq S k false)
def R7:IM=true:=by decide+kernel
def AI:Bool:=(An 6 0).all λS=>decide (fC S.toArray 0=0) && (aW S.length).all λi=>decide (fC S.toArray (S.getD i 0+1)=i+1)
def M0:AI=true:=by decide+kernel
def SetS(h:Heap)(a:Addr)(S:List Nat)(led:Bool):Prop:=riseF 0 S/\∃(es:Array (Int×aC)) (ep:Nat),h.get? a=some {cls:=.type "set",dict:=none,data:=.set es ep (ml S led)}/\
 es.toList.map (·.1)=S.map jD/\fO (es.toList.map (·.2)) (S.map jD)
theorem riseF.len:∀{S:List Nat}{m:Nat},m<=6->riseF m S->S.length+m<=6
 |[],m,h,_=>by simpa using h
 |k::r,m,_,⟨h1,h2,h3⟩=>by
  have:=riseF.len (by lia) h3;rw[aE];lia
theorem riseF.lt:∀{S:List Nat}{m:Nat},riseF m S->∀k∈S,m<=k/\k<6
 |[],_,_,k,h=>by simp at h
 |a::r,m,⟨h1,h2,h3⟩,k,h=>by
  rcases List.mem_cons.mp h with rfl|h
  ·exact⟨h1,h2⟩
  ·have:=riseF.lt h3 k h;exact⟨by lia,this.2⟩
def IL{S:List Nat}{k:Nat}(led:Bool)(hS:riseF 0 S)(hk:k<6)(hn:k∉S):Gq S k led=true:=by
 have h:=List.all_eq_true.mp (List.all_eq_true.mp R7 S (pj 6 0 S rfl hS)) k (List.mem_range.mpr hk);rw[dG,aF]at h;rcases h with h|⟨h1,h2⟩
 ·exact absurd (by simpa using h) hn
 ·cases led
  ·exact h2
  ·exact h1
def vo{prog:bQ}{w:bZ}{k:Nat}(hk:k<6):(kI prog w).hash (k:Int)=(k:Int):=by
 have:∀j:Fin 6,(kI prog w).hash ((j.val:Nat):Int)=((j.val:Nat):Int):=by
  intro j;obtain⟨j,hj⟩:=j
  match j,hj with
  |0,_=>rfl
  |1,_=>rfl
  |2,_=>rfl
  |3,_=>rfl
  |4,_=>rfl
  |5,_=>rfl
 exact this ⟨k,hk⟩
theorem Ck:∀{vs:List aC}{ns:List Int},fO vs ns->∀{i:Nat}{v:aC},vs[i]?=some v->∃n t,ns[i]?=some n/\v=.int n t
 |_,_,.nil,i,v,h=>by simp at h
 |_,_,.cons n t r,0,v,h=>by simp at h;exact⟨n,t,rfl,h.symm⟩
 |_,_,.cons n t r,i+1,v,h=>by
  obtain⟨n',t',q1,q2⟩:=Ck r (i:=i) (by simpa using h);exact⟨n',t',by simpa using q1,q2⟩
def SetS.elems{prog:bQ}{w:bZ}{es:Array (Int×aC)}{S:List Nat}(hS:riseF 0 S)(h1:es.toList.map (·.1)=S.map jD)(h2:fO (es.toList.map (·.2)) (S.map jD)):
  ElemsOf (kI prog w) es.toList/\∀k:Int,(∃e∈es.toList,(kI prog w).is k e.2=true)↔∃j∈S,k=(j:Int):=by
 have at_:∀(i:Nat)(e:Int×aC),es.toList[i]?=some e->∃j t,S[i]?=some j/\e=((j:Int),.int (j:Int) t):=λi e he=>by
  have q1:(es.toList.map (·.1))[i]?=some e.1:=by rw[bM,he];rfl
  have q2:(es.toList.map (·.2))[i]?=some e.2:=by rw[bM,he];rfl
  rw[h1,bM]at q1;obtain⟨n,t,q3,q4⟩:=Ck h2 q2;rw[bM]at q3;cases z:S[i]? with
  |none=>rw[z]at q1;cases q1
  |some j=>
   rw[z]at q1 q3;simp at q1 q3;obtain⟨e1,e2⟩:=e;simp at q1 q4;subst q1;subst q3;exact⟨j,t,rfl,by rw[q4]⟩
 refine⟨λe he=>?_,λk=>⟨?_,?_⟩⟩
 ·obtain⟨i,hi,rfl⟩:=List.mem_iff_getElem.mp he;obtain⟨j,t,q1,q2⟩:=at_ i _ (bL hi);have hj:=(hS.lt j (bF q1)).2;refine⟨⟨(j:Int),?_,?_⟩,?_⟩
  ·rw[q2];exact oK _ _ _ _
  ·rw[q2,vo hj]
  ·rw[q2];rfl
 ·rintro ⟨e,he,hk⟩
  obtain⟨i,hi,rfl⟩:=List.mem_iff_getElem.mp he;obtain⟨j,t,q1,q2⟩:=at_ i _ (bL hi);refine⟨j,bF q1,?_⟩;rw[q2]at hk;exact(kI prog w).inj _ _ _ hk (oK _ _ _ t)
 ·rintro ⟨j,hj,rfl⟩
  obtain⟨i,hi,rfl⟩:=List.mem_iff_getElem.mp hj;have hl:es.toList.length=S.length:=by have:=congrArg gS h1;simpa using this
  have hi':i<es.toList.length:=by rw[hl];exact hi
  obtain⟨j',t,q1,q2⟩:=at_ i _ (bL hi');rw[bL hi]at q1;cases q1;refine⟨es.toList[i],nW hi',?_⟩;rw[q2];exact oK _ _ _ _
theorem Kk{k:Nat}:∀{S:List Nat}{m:Nat},riseF m S->k∈S->k9 k S=S
 |[],_,_,h=>by simp at h
 |a::r,m,⟨h1,h2,h3⟩,h=>by
  unfold k9;rcases List.mem_cons.mp h with rfl|h
  ·rw[aJ (cI _),aG rfl]
  ·have:=(riseF.lt h3 k h).1;rw[aJ (by lia),aJ (by lia),Kk h3 h]
theorem F5{k:Nat}:∀{S:List Nat}{m:Nat},riseF m S->k<m->A0 k S=0
 |[],_,_,_=>rfl
 |a::r,m,⟨h1,h2,h3⟩,hk=>by
  unfold A0;rw[eH,aJ (by simp;lia)];exact F5 h3 (by lia)
theorem qm{k:Nat}:∀{S:List Nat}{m:Nat},riseF m S->k∉S->k9 k S=S.take (A0 k S)++k::S.drop (A0 k S)
 |[],_,_,_=>rfl
 |a::r,m,⟨h1,h2,h3⟩,hn=>by
  rw[dU,not_or]at hn;unfold k9
  by_cases z:k<a
  ·rw[aG z,F5 (S:=a::r) (m:=a) ⟨aH _,h2,h3⟩ z];rfl
  ·rw[aJ z,aJ hn.1,qm h3 hn.2];have:A0 k (a::r)=A0 k r+1:=by
    unfold A0;rw[eH,aG (by simp;lia),aE]
   rw[this];rfl
def vc{α:Type}(xs:Array α)(p:Nat)(x:α):(dO xs p x).toList=xs.toList.take p++x::xs.toList.drop p:=by
 unfold dO;rw[Array.toList_append,Array.toList_push,Array.toList_extract,Array.toList_extract];simp[List.extract_eq_take_drop];exact kN (by simp)
def l8{α:Type}(es:Array α):(oX es.size).filterMap (es[·]?)=es:=by
 apply Array.toList_inj.mp;rw[Array.toList_filterMap,Array.toList_range];have gen:∀(l:List α),(aW l.length).filterMap (λi=>l[i]?)=l:=by
  intro l;induction l with
  |nil=>rfl
  |cons a r ih=>
   rw[aE,List.range_succ_eq_map,fF,List.filterMap_map];simp only[aS]
   congr 1
 have:=gen es.toList;rw[aL]at this;simpa using this
theorem Kl:∀{vs us:List aC}{ns ms:List Int},fO vs ns->fO us ms->fO (vs++us) (ns++ms)
 |_,_,_,_,.nil,q=>q
 |_,_,_,_,.cons n t r,q=>.cons n t (Kl r q)
theorem Fp:∀{vs:List aC}{ns:List Int}(p:Nat),fO vs ns->fO (vs.take p) (ns.take p)
 |_,_,0,_=>by rw[List.take_zero,List.take_zero];exact .nil
 |_,_,_+1,.nil=>.nil
 |_,_,p+1,.cons n t r=>.cons n t (Fp p r)
theorem Fo:∀{vs:List aC}{ns:List Int}(p:Nat),fO vs ns->fO (vs.drop p) (ns.drop p)
 |_,_,0,h=>h
 |_,_,_+1,.nil=>.nil
 |_,_,p+1,.cons n t r=>Fo p r
def S6{t t':cY}{es:Array (Int×aC)}{h:Int}{x:aC}{k p:Nat}(h1:t.freeSlot h=some (k,false))(h2:t.put k=(t',p))(h3:t'.fits (dO es p (h,x)).size=true):
  layNew t es h x=(dO es p (h,x),t',false,false):=by
 unfold layNew;rw[h1];dsimp only;rw[h2];dsimp only;rw[h3];unfold SetTable.orStandIn;rw[h3];rfl
def Lq{t t':cY}{es:Array (Int×aC)}{n:Nat}(h1:t.relaid (es.map (·.1)) n=some (t',oX es.size))(h2:t'.fits es.size=true):relayAll t es n=(es,t',false):=by
 unfold relayAll;rw[h1];dsimp only;rw[l8,h2];have:coversAll (oX es.size) es.size=true:=by
  unfold coversAll;rw[Array.toList_range];exact List.isPerm_iff.mpr (hO _)
 rw[this];rfl
section
variable{prog:bQ}{w:bZ}{A:cG}{E:aC->aI->Prop}{s:aI}
def Rq{a:Addr}{S:List Nat}{led:Bool}{k:Nat}{tk:Tok}{Q:Bool->aI->Prop}(hS:SetS s.heap a S led)(hk:k<6)
  (h:∀h' b,cK a s.heap h'->SetS h' a (k9 k S) led->Q b {s with heap:=h'}):bA (bH prog w) A (oM a (.int (k:Int) tk) (k:Int)) Q E s:=by
 obtain⟨hr,es,ep,ho,h1,h2⟩:=hS;obtain⟨hel,hmem⟩:=SetS.elems (prog:=prog) (w:=w) hr h1 h2;have hl:es.size=S.length:=by have:=congrArg gS h1;simpa using this
 have hz:=hr.len (by lia);have hsb:es.size<scanBound:=by rw[hl];unfold scanBound;lia
 have hf:(ml S led).fits es.size=true:=by
  rw[hl];unfold iG ml SetTable.fill;split<;>simp<;>lia
 have hash:(kI prog w).hash (k:Int)=(k:Int):=vo hk;unfold oM setAddHashedIn;refine cM (aA (cW ho rfl hf ?_));dsimp only;rw[byScan_of (knd:=kI prog w) rfl hsb hel];simp only[↓reduceIte];unfold setAddByScan;have scan:∀(Q':ScanMet->aI->Prop),Q' (match es.toList.findIdx? (λe=>(kI prog w).is (k:Int) e.2)with
   |some j=>.found (0+j)
   |none=>.absent) s->bA (bH prog w) A (setScan a (.int (k:Int) tk) (k:Int) true es) Q' E s:=λQ' hq=>by
  have:=wpAny_setScan_of (knd:=kI prog w) (A:=A) (E:=E) (adding:=true) (Q:=Q') (oK prog w (k:Int) tk) ho rfl hf hel hq;rw[hash]at this;exact this
 refine aA (aA (jS (aA (scan _ ?_))));cases hfd:es.toList.findIdx? (λe=>(kI prog w).is (k:Int) e.2)with
 |some j=>
  dsimp only;obtain⟨hj,hpj,_⟩:=List.findIdx?_eq_some_iff_getElem.mp hfd;obtain⟨j',hj',ej⟩:=(hmem (k:Int)).mp ⟨_,nW hj,hpj⟩;have hkS:k∈S:=by
   have:k=j':=by lia
   rw[this];exact hj'
  refine aB (aB ?_);have:=h s.heap false (Heap.SameBut.refl a s.heap) (by rw[Kk hr hkS];exact⟨hr,es,ep,ho,h1,h2⟩);exact this
 |none=>
  dsimp only;have hkS:k∉S:=λz=>by
   obtain⟨e,he,hp⟩:=(hmem (k:Int)).mpr ⟨k,z,rfl⟩;have:=List.findIdx?_eq_none_iff.mp hfd e he;rw[hp]at this;cases this
  have chk:=IL led hr hk hkS;unfold Gq at chk;simp only[aF,decide_eq_true_eq]at chk;obtain⟨⟨⟨⟨c1,c2⟩,c3⟩,c4⟩,c5⟩:=chk;have sz:(dO es (A0 k S) ((k:Int),gK (k:Int) tk)).size=S.length+1:=by
   rw[<-aL,vc,aZ,aE,dS,dH,aL,hl]
   lia
  have lay:=S6 (es:=es) (x:=.int (k:Int) tk) c1 c2 (by rw[sz];exact c3);have il:=vc es (A0 k S) ((k:Int),gK (k:Int) tk);generalize dO es (A0 k S) ((k:Int),gK (k:Int) tk)=es1 at sz lay il;have f1:es1.toList.map (·.1)=(k9 k S).map jD:=by
   rw[il,qm hr hkS,dD,aV,dD,aV,jN,jO,h1,jN,jO];rfl
  have f2:fO (es1.toList.map (·.2)) ((k9 k S).map jD):=by
   rw[il,qm hr hkS,dD,aV,dD,aV,jN,jO,jN,jO];exact Kl (Fp _ h2) (.cons _ _ (Fo _ h2))
  have hr':=y8 hk (bX _) hr;have hz1:es1.size<=aQ:=by rw[sz,cD];lia
  rw[lay];dsimp only;refine aA (aB ?_);have pl:(zc k S led).plain=true:=rfl;rw[pl];simp only[if_true];refine aA ?_;show bA _ A (pure true) _ _ s;refine aB ?_;simp only[if_true];refine aA (kP ho rfl ?_ hz1);have g1:(s.heap.update a (gI es1 (zc k S led))).get? a=some {cls:=.type "set",dict:=none,data:=.set es1 (ep+1) (zc k S led)}:=cN (gI es1 (zc k S led)) ho rfl;have sb1:=cH s.heap a (gI es1 (zc k S led))
  by_cases full:(zc k S led).tooFull=true
  ·rw[aG full]at c4;rw[decide_eq_true_eq]at c4;have lf:(ml (k9 k S) led).fits es1.size=true:=by
    have e:(k9 k S).length=S.length+1:=by rw[qm hr hkS,aZ,aE,dS,dH];have:A0 k S<=S.length:=iK _ _;lia
    rw[sz,<-e];have:=hr'.len (by lia);unfold iG ml SetTable.fill;split<;>simp<;>lia
   have rl:=Lq (t:=zc k S led) (t':=ml (k9 k S) led) (es:=es1) (n:=SetTable.grown es1.size) (by
    rw[sz];have:es1.map (·.1)=((k9 k S).map jD).toArray:=by
     apply Array.toList_inj.mp;rw[nX,f1]
    rw[this];exact c4) lf
   rw[full];simp only[gD,nM,if_true];rw[rl];dsimp only;refine aA (aB ?_);refine aA (kP g1 rfl ?_ hz1);refine aB (aB (h _ true (sb1.trans (cH _ a _)) ⟨hr',es1,ep+1+1,?_,f1,f2⟩));exact cN (gI es1 (ml (k9 k S) led)) g1 rfl
  ·have full':(zc k S led).tooFull=false:=by simpa using full
   rw[aJ full,decide_eq_true_eq]at c4;rw[full'];simp only[gD,hJ,Bool.false_eq_true,if_false];refine aB (aB (h _ true sb1 ⟨hr',es1,ep+1,?_,f1,f2⟩));rw[g1,c4]
end
def Am(ns:List Int):Prop:=∀n∈ns,0<=n/\n<6
def i9(w:bZ):Bool:= !(w.params.followText "set-order")
def SetS.keep{h h':Heap}(x:SetS h a S led)(k:∀o,h.get? a=some o->h'.get? a=some o):SetS h' a S led:=by
 obtain⟨r,es,ep,ho,q⟩:=x;exact⟨r,es,ep,k _ ho,q⟩
section
variable{prog:bQ}{w:bZ}{A:cG}{R:Result->aI->Prop}{I:Addr}{fp wr:List Addr}{P:Nat->aC->Prop}{St:Nat->Heap->Prop}{ns:List Int}
def Mi(W:Walks prog w A.in1 I fp wr ns.length P St)(a:Addr)(ha:a∉fp)(led:Bool)(hs:Am ns)(hP:∀i v,P i v->∃n t,ns[i]?=some n/\v=.int n t):
  ∀(rest:List Int)(i:Nat)(s:aI)(T:List Nat),ns.drop i=rest->i<=ns.length->St i s.heap->SetS s.heap a T led->
   (∀h' tk,(∀b o,b≠a->b∉wr->s.heap.get? b=some o->h'.get? b=some o)->SetS h' a (rest.foldl (λS n=>k9 n.toNat S) T) led->R (.ok (.ret .none)) {s with heap:=h',toks:=tk})->
   iO (bH prog w) A (.builtin "set.update.loop" ⟨[.ref a,.ref I],[]⟩) R s:=by
 have haw:a∉wr:=λz=>ha (W.sub _ z);intro rest;induction rest with
 |nil=>
  intro i s T hd hi st hT hR;have hin:i=ns.length:=by
   have:=congrArg gS hd;rw[dH,dC]at this
   lia
  subst hin;refine eB eK ?_;rw[dY cC _];show bA _ A.in1 (jV (.ref I)>>=_) _ _ s;refine aA (W.done s _ _ st λh' tk hk=>?_);show bA _ A.in1 (ret cE) _ _ _;exact aB (hR h' tk (λb o _ hb e=>hk b o hb e) (hT.keep λo e=>hk a o haw e))
 |cons n rest ih=>
  intro i s T hd hi st hT hR;have hlt:i<ns.length:=by
   have:=congrArg gS hd;rw[dH,aE]at this
   lia
  have hni:ns[i]?=some n:=by
   have:(ns.drop i)[0]?=some n:=by rw[hd];rfl
   simpa using this
  have hd':ns.drop (i+1)=rest:=by
   have:(ns.drop i).drop 1=rest:=by rw[hd];rfl
   rw[List.drop_drop]at this;exact this
  refine eB eK ?_;rw[dY cC _];show bA _ A.in1 (jV (.ref I)>>=_) _ _ s;refine aA (W.item i s _ _ hlt st λv h1 tk1 hv st1 hk1=>?_);obtain⟨n',t,e1,rfl⟩:=hP i v hv;rw[hni]at e1;cases e1;obtain⟨p1,p2⟩:=hs n (bF hni);obtain⟨k,rfl⟩:∃k:Nat,n=(k:Int):=⟨n.toNat,by lia⟩;have hk6:k<6:=by lia
  show bA _ A.in1 (holding [gK (k:Int) t] (setAdd a (.int (k:Int) t))>>=_) _ _ _;refine aA (cM ?_);unfold setAdd;refine cM (aA ((kI prog w).pyHash (k:=(k:Int)) (oK _ _ _ _) ?_));rw[vo hk6];refine Rq (hT.keep λo e=>hk1 a o haw e) hk6 λh2 b sb hT2=>?_;refine aB ⟨jP cC _,ih (i+1) _ _ hd' hlt (W.frame _ _ _ st1 λc hc o e=>?_) hT2 λh' tk hk hT'=>?_⟩
  ·rw[sb.2 c (λz:c=a=>ha (z▸hc))];exact e
  ·refine hR h' tk (λc o hc hw e=>hk c o hc hw ?_) hT';show h2.get? c=some o;rw[sb.2 c hc];exact hk1 c o hw e
end
section
variable{prog:bQ}{w:bZ}{A:cG}{E:aC->aI->Prop}{s:aI}
def Ql(x:aC)(h:Q (.ref s.heap.objs.size) {s with heap:=s.heap.push {cls:=.type "set",dict:=none,data:=.set #[] 0 (.fresh 0 0 (i9 w))}}):
  iO (bH prog w) A (.call (.builtin "set.__new__") ⟨[.type "set",x],[]⟩) (wants Q E) s:=by
 refine jR ?_;show bA _ A.in1 (nY "set.__new__" ⟨[.type "set",x],[]⟩>>=λ_=>again (.builtin "set.__new__" ⟨[.type "set",x],[]⟩)) _ _ s;refine aA (lR (PySem.F.newCall_set_1 x) (aB ?_));refine⟨jP PySem.F.plain_set_new _,eB PySem.F.entry_set_new ?_⟩;rw[dY PySem.F.plain_set_new _];unfold Builtin.«set.__new__» Builtin.Frozenset.newClass;have hsub:=sub_set_self;obtain⟨hp,gs,dr,tk,os⟩:=s;dsimp only at h⊢
 wp_walk
 refine eW (aB ?_);dsimp only;simp only[newObj];refine aA (wpAny_alloc (aB (aB ?_)));exact h
end
def Es:isSubtype (.type "tuple") (.type "set")=pure false:=by rw[mO];kernel_rfl
def uz:isSubtype (.type "tuple") (.type "frozenset")=pure false:=by rw[mO];kernel_rfl
def Oi{h:Heap}{led:Bool}:SetS (h.push {cls:=.type "set",dict:=none,data:=.set #[] 0 (.fresh 0 0 led)}) h.objs.size [] led:=
 ⟨trivial,#[],0,aX _ rfl,rfl,.nil⟩
def Cq{items:Array aC}{ns:List Int}(hi:fO items.toList ns)(i:Nat)(v:aC)(h:items[i]?=some v):∃n t,ns[i]?=some n/\v=.int n t:=
 Ck hi (by rw[bO];exact h)
section
variable{prog:bQ}{w:bZ}{A:cG}{E:aC->aI->Prop}{s:aI}
def R5{l:Addr}{items:Array aC}{ns:List Int}{Q:aC->aI->Prop}(b:Bool)(hh:A.handled=none)(hl:if b=true then s.heap.IsTuple l items else s.heap.IsList l items)(hi:fO items.toList ns)(hs:Am ns)
  (h:∀(h':Heap)(tk:Nat),SetS h' s.heap.objs.size (wc ns) (i9 w)->(∀c o,c<s.heap.objs.size->s.heap.get? c=some o->h'.get? c=some o)->Q (.ref s.heap.objs.size) {s with heap:=h',toks:=tk}):
  bA (bH prog w) A (call (.type "set") [.ref l]) Q E s:=by
 obtain⟨c0,tl0,hmro⟩:=PySem.F.called_set.mro;have hmade:=PySem.F.called_set.made;have hsub:=PySem.F.called_set.sub;refine mJ (jR ?_);show bA _ _ (callAny (.type "set") _) _ _ _;refine aB ⟨mP _ (by decide+kernel),eB PySem.F.entry_type_call ?_⟩;rw[mQ (kZ "set" [.ref l] []) rfl];have hnt:=PySem.F.called_set.notType;have hcc:=PySem.F.called_set.canCreate;have hct:=PySem.F.typeCall_set_1 (.ref l)
 repeat (any_goals (first|assumption|wp_step))
 refine eP (Ql (.ref l) (E:=E) (Q:=λobj s₁=>obj=.ref s.heap.objs.size/\s₁={s with heap:=s.heap.push {cls:=.type "set",dict:=none,data:=.set #[] 0 (.fresh 0 0 (i9 w))}}) ⟨rfl,rfl⟩) λr s₁ hr=>?_;cases r with
 |error e=>exact hr
 |ok fl=>
  cases fl with
  |ret obj=>
   obtain⟨rfl,rfl⟩:=hr;generalize hh1:s.heap.push {cls:=.type "set",dict:=none,data:=.set #[] 0 (.fresh 0 0 (i9 w))}=h1;have hz1:h1.objs.size=s.heap.objs.size+1:=by rw[<-hh1,fA]
   have k1:∀c o,s.heap.get? c=some o->h1.get? c=some o:=λc o e=>by rw[<-hh1];exact aD _ e
   have hS:h1.get? s.heap.objs.size=some {cls:=.type "set",dict:=none,data:=.set #[] 0 (.fresh 0 0 (i9 w))}:=by rw[<-hh1];exact aX _ rfl
   have fr:SetS h1 s.heap.objs.size [] (i9 w):=by rw[<-hh1];exact Oi
   have hT:Shared.TypeIs {s with heap:=h1} (.ref s.heap.objs.size) "set":=⟨_,hS,rfl⟩;have hli:=PySem.F.called_set.init.lookup;have hbi:=PySem.F.called_set.init.bind (.ref s.heap.objs.size)
   repeat (any_goals (first|assumption|wp_step))
   refine eP (iY (R:=wants (λr s₂=>r=.none/\∃h' tk,s₂={s with heap:=h',toks:=tk}/\SetS h' s.heap.objs.size (wc ns) (i9 w)/\(∀c o,c<s.heap.objs.size->s.heap.get? c=some o->h'.get? c=some o)) E)
    PySem.F.called_set.init.plain PySem.F.entry_set_init (check_set_init_1 hT ?_)) λr₂ s₂ hr₂=>?_
   ·have hlt:l<s.heap.objs.size:=by
     cases b
     ·obtain⟨o,e,_⟩:=(show s.heap.IsList l items from hl);exact aT e
     ·obtain⟨o,e,_⟩:=(show s.heap.IsTuple l items from hl);exact aT e
    have hh3:A.in1.in1.in1.handled=none:=by simp[hh]
    have hneI:l≠h1.objs.size:=by rw[hz1];exact bJ (gV hlt)
    have hSf:s.heap.objs.size∉[h1.objs.size,l]:=by
     rw[hz1];simp only[dU,nZ,or_false,not_or];exact⟨bJ (hU _),jA hlt⟩
    have len:items.size=ns.length:=by rw[<-aL];exact IntsAre.length hi
    have fin:∀{h2:Heap}{oI:Obj},h2=h1.push oI->∀(h':Heap)(tk:Nat),(∀c o,c≠s.heap.objs.size->c∉[h1.objs.size]->h2.get? c=some o->h'.get? c=some o)->∀c o,c<s.heap.objs.size->s.heap.get? c=some o->h'.get? c=some o:=λ{h2 oI} e2 h' tk hk c o hc e=>by
     refine hk c o (bJ hc) (by rw[hz1];simp;lia) ?_;rw[e2];exact aD _ (k1 c o e)
    cases b with
    |false=>
     obtain⟨ol,hol,hcl,nl,hdl⟩:=(show s.heap.IsList l items from hl);obtain⟨ocls,odict,odata,oslots⟩:=ol;simp only at hcl hdl;subst hcl;subst hdl;have hol':=k1 _ _ hol;have q1:=PySem.F.sub_list_set;have q2:=PySem.F.sub_list_frozenset;have q3:(gE "list"==gE "dict")=false:=by decide
     have hl1:h1.IsList l items:=⟨_,hol',rfl,nl,rfl⟩;unfold Builtin.«set.__init__» noKeywords iE;generalize hPI:pyIter=PI
     wp_walk
     subst hPI;refine fB hl1 (aA (mR ?_));have W:=Walks.list (prog:=prog) (w:=w) hh3 h1.objs.size l hneI items;rw[len]at W;refine Mi W s.heap.objs.size hSf (i9 w) hs (Cq hi) ns 0 _ [] rfl (bX _) ⟨⟨_,aX _ rfl,rfl,rfl⟩,hl1.push _⟩ (fr.keep λo e=>aD _ e) λh' tk hk hS'=>?_;refine aB ?_;show bA _ _ (ret cE) _ _ _;exact aB ⟨rfl,h',tk,rfl,hS',fin rfl h' tk hk⟩
    |true=>
     obtain⟨ol,hol,hcl,nl,hdl⟩:=(show s.heap.IsTuple l items from hl);obtain⟨ocls,odict,odata,oslots⟩:=ol;simp only at hcl hdl;subst hcl;subst hdl;have hol':=k1 _ _ hol;have q1:=Es;have q2:=uz;have q3:(gE "tuple"==gE "dict")=false:=by decide
     have hl1:h1.IsTuple l items:=⟨_,hol',rfl,nl,rfl⟩;unfold Builtin.«set.__init__» noKeywords iE;generalize hPI:pyIter=PI
     wp_walk
     subst hPI;refine wpAny_pyIter_tuple hl1 (aA (mR ?_));have W:=Walks.tuple (prog:=prog) (w:=w) hh3 h1.objs.size l hneI items;rw[len]at W;refine Mi W s.heap.objs.size hSf (i9 w) hs (Cq hi) ns 0 _ [] rfl (bX _) ⟨⟨_,aX _ rfl,rfl,rfl⟩,hl1.push _⟩ (fr.keep λo e=>aD _ e) λh' tk hk hS'=>?_;refine aB ?_;show bA _ _ (ret cE) _ _ _;exact aB ⟨rfl,h',tk,rfl,hS',fin rfl h' tk hk⟩
   ·cases r₂ with
    |error e=>exact hr₂
    |ok fl₂=>
     cases fl₂ with
     |ret r=>
      obtain⟨rfl,h',tk,rfl,hS',hk'⟩:=hr₂
      repeat (any_goals (first|assumption|wp_step))
      exact h _ _ hS' hk'
     |_=>exact hr₂.elim
  |_=>exact hr.elim
end
theorem B6:∀{l:List α}{i:Nat}(h:i<l.length),(l[i]::l.eraseIdx i).Perm l
 |a::r,0,_=>hO _
 |a::r,i+1,h=>by
  have h':i<r.length:=by simpa using h
  exact(kQ a (r[i]'h') (r.eraseIdx i)).trans ((B6 h').cons a)
theorem Ak(next:Nat->Nat):∀(n k:Nat)(left:List α)(out:Array α),left.length=n->(pickOrder.go next n k left out).toList.Perm (out.toList++left)
 |0,k,left,out,h=>by
  have:left=[]:=List.length_eq_zero_iff.mp h;subst this;unfold pickOrder.go;rw[cA]
 |n+1,k,left,out,h=>by
  unfold pickOrder.go;have hlt:next k % left.length<left.length:=Nat.mod_lt _ (by lia)
  rw[bL hlt];dsimp only;refine(Ak next n (k+1) _ _ (by rw[List.length_eraseIdx,aG hlt];lia)).trans ?_;rw[Array.toList_push,dM];refine List.Perm.append_left _ ?_;exact B6 hlt
def Tg(next:Nat->Nat)(xs:Array α):(pF next xs).toList.Perm xs.toList:=by
 have:=Ak next xs.size 0 xs.toList #[] (by simp)
 simpa[pF]using this
noncomputable def gu(w:bZ)(a ep:Nat)(es:Array (Int×aC)):Array (Int×aC):=if w.params.followText "set-order" then pF (w.params.setOrder a ep) es else es
def gj(w:bZ)(a ep:Nat)(es:Array (Int×aC)):(gu w a ep es).toList.Perm es.toList:=by
 unfold gu;split
 ·exact Tg _ _
 ·exact hO _
def Ex(h:Heap)(a:Addr)(S:List Nat)(led:Bool)(es:Array (Int×aC))(ep:Nat):Prop:=h.get? a=some {cls:=.type "set",dict:=none,data:=.set es ep (ml S led)}
def SetIt(h:Heap)(I a:Addr)(slot i n ep:Nat):Prop:=h.get? I=some {cls:=.type "set_iterator",data:=.fields #[dR slot,dR i,.ref a,dR n,dR ep]}
def lr(w:bZ)(S:List Nat)(i:Nat):Nat:=if w.params.followText "set-order" then 0 else if i=0 then 0 else S.getD (i - 1) 0+1
def Hg{S:List Nat}(hr:riseF 0 S):(ml S led).fits S.length=true:=by
 have:=hr.len (by lia);unfold iG ml SetTable.fill;split<;>simp<;>lia
def GS{S:List Nat}(hr:riseF 0 S):fC S.toArray 0=0/\∀i,i<S.length->fC S.toArray (S.getD i 0+1)=i+1:=by
 have h:=List.all_eq_true.mp M0 S (pj 6 0 S rfl hr);rw[aF,decide_eq_true_eq]at h;exact⟨h.1,λi hi=>of_decide_eq_true (List.all_eq_true.mp h.2 i (List.mem_range.mpr hi))⟩
section
variable{prog:bQ}{w:bZ}{A:cG}{E:aC->aI->Prop}{s:aI}{a:Addr}{S:List Nat}{es:Array (Int×aC)}{ep:Nat}
def Ly(hr:riseF 0 S)(hz:es.size=S.length)(ho:Ex s.heap a S (i9 w) es ep)(hi:i<=es.size)
  (h:Q (((gu w a ep es)[i]?).map λe=>(e.2,lr w S (i+1))) s):bA (bH prog w) A (setNext a (lr w S i) i ep) Q E s:=by
 have hf:(ml S (i9 w)).fits es.size=true:=by rw[hz];exact Hg hr
 unfold setNext;refine aA (cW ho rfl hf ?_);dsimp only;unfold mS;refine aA (aA (eW (aB ?_)));have hb0:(bH prog w).w.params.followText "set-order"=w.params.followText "set-order":=rfl;cases bt:w.params.followText "set-order" with
 |true=>
  have e0:gu w a ep es=pF (w.params.setOrder a ep) es:=by unfold gu;rw[aG bt]
  have e1:∀i,lr w S i=0:=λi=>by unfold lr;rw[aG bt]
  rw[e0,e1]at h;rw[e1];have e2:(⟨(bH prog w).prog,(bH prog w).w.params⟩:Setting).params.followText "set-order"=true:=bt;rw[e2];simp only[if_true,bne_self_eq_false,Bool.false_eq_true,if_false];refine aA ?_;unfold setWalk;refine aA (cW ho rfl hf ?_);dsimp only;unfold mS;refine aA (aA (eW (aB ?_)));rw[e2];simp only[if_true];refine aA (eW (aB ?_));exact aB h
 |false=>
  have e0:gu w a ep es=es:=by unfold gu;rw[aJ (by rw[bt];decide)]
  have e1:∀i,lr w S i=if i=0 then 0 else S.getD (i - 1) 0+1:=λi=>by unfold lr;rw[aJ (by rw[bt];decide)]
  have e2:(⟨(bH prog w).prog,(bH prog w).w.params⟩:Setting).params.followText "set-order"=false:=bt;have e3:i9 w=true:=by unfold i9;rw[bt];rfl
  have bl:fC (ml S (i9 w)).place (lr w S i)=i:=by
   obtain⟨b1,b2⟩:=GS hr;show fC S.toArray _=i;rw[e1]
   by_cases z:i=0
   ·rw[aG z,z];exact b1
   ·rw[aJ z,b2 (i - 1) (by lia)];lia
  rw[e0]at h;rw[e2];simp only[Bool.false_eq_true,if_false];refine iF (λz=>?_) λ_=>?_
  ·have z':(!true && decide (es.size>1))=true:=z;simp at z'
  ·refine aA ?_;have e4:(!(ml S (i9 w)).led && !es.isEmpty)=false:=by
    have:(ml S (i9 w)).led=true:=e3;rw[this];rfl
   wp_delta
   rw[e4];simp only[Bool.false_eq_true,if_false];refine aB (aB ?_);rw[bl];have e5:(ml S (i9 w)).place[i]?=S[i]?:=by show S.toArray[i]?=_;simp
   rw[e5];cases hc:es[i]? with
   |none=>
    rw[hc]at h;exact h
   |some e=>
    rw[hc]at h;have hlt:i<S.length:=by
     have:=(Array.getElem?_eq_some_iff.mp hc).1
     lia
    rw[bL hlt];have:lr w S (i+1)=S[i]+1:=by
     rw[e1,aJ (by lia)];simp[hlt]
    rw[this]at h;exact h
end
def g8:Slot "set_iterator" "__next__" "set_iterator.__next__":=
 .of (owner:="set_iterator") (n:="__next__") (by rw[typeLookup_type,builtinLookup_eq_fast];kernel_rfl) (by decide+kernel) (by decide+kernel) (by decide+kernel) (.inl (by decide+kernel)) (by rw[mO];kernel_rfl)
def q8:entryFor table "set_iterator.__next__"=some Builtin.«set_iterator.__next__»:=entryFor_of_tree (by kernel_rfl)
def q0(a:aC):argsOk "set_iterator.__next__" ⟨[a],[]⟩:=by
 unfold argsOk;kernel_rfl
def ya:Slot "set_iterator" "__iter__" "set_iterator.__iter__":=
 .of (owner:="set_iterator") (n:="__iter__") (by rw[typeLookup_type,builtinLookup_eq_fast];kernel_rfl) (by decide+kernel) (by decide+kernel) (by decide+kernel) (.inl (by decide+kernel)) (by rw[mO];kernel_rfl)
def Dr:entryFor table "set.__iter__"=some Builtin.«frozenset.__iter__»:=entryFor_alias (id':="frozenset.__iter__") (by kernel_rfl) rfl (by decide+kernel) (by kernel_rfl)
def Dt(a:aC):argsOk "set_iterator.__iter__" ⟨[a],[]⟩:=by
 unfold argsOk;kernel_rfl
def Du:entryFor table "set_iterator.__iter__"=some Builtin.«dict_keyiterator.__iter__»:=entryFor_alias (id':="dict_keyiterator.__iter__") (by kernel_rfl) (by first|rfl|decide+kernel) (by decide+kernel) (by kernel_rfl)
section
variable{prog:bQ}{w:bZ}{A:cG}{E:aC->aI->Prop}{s:aI}{a I:Addr}{S:List Nat}{es:Array (Int×aC)}{ep i:Nat}
def SetIt.ty{slot n:Nat}(h:SetIt s.heap I a slot i n ep):s.TypeIs (.ref I) "set_iterator":=⟨_,h,rfl⟩
def Y2(hr:riseF 0 S)(hz:es.size=S.length)(ho:Ex s.heap a S (i9 w) es ep)(hit:SetIt s.heap I a (lr w S i) i es.size ep)(he:(gu w a ep es)[i]?=some e)
  (hQ:∀h',SetIt h' I a (lr w S (i+1)) (i+1) es.size ep->cK I s.heap h'->Q (some e.2) {s with heap:=h'}):bA (bH prog w) A (jV (.ref I)) Q E s:=by
 have hf:(ml S (i9 w)).fits es.size=true:=by rw[hz];exact Hg hr
 have hi:i<=es.size:=by
  have h1:=(Array.getElem?_eq_some_iff.mp he).1;have h2:=(gj w a ep es).length_eq;rw[aL,aL]at h2
  lia
 unfold jV;refine aA (lJ (eV (name:=fX "__next__") hit.ty g8 (cU g8 hit.ty q8 ?_ (q0 _))));unfold Builtin.«set_iterator.__next__»;refine aA (aB ?_);refine aA (mT hit rfl ?_);dsimp only[dR];refine aA (fV ho rfl hf ?_);rw[aJ (by simp)];refine aA (Ly (prog:=prog) hr hz ho hi ?_);rw[show((ep:Int).toNat)=ep from iP ep,he];dsimp only[oN];have hit0:s.heap.get? I=some {cls:=.type "set_iterator",data:=.fields #[dR (lr w S i:Nat),dR (i:Nat),.ref a,dR (es.size:Nat),dR (ep:Nat)]}:=hit;refine aA (fQ hit0 rfl (by simp) ?_);have g1:=cN (eY (·.setIfInBounds 0 (gK ((lr w S (i+1):Nat):Int) 0))) hit0 rfl;refine aA (fQ g1 rfl (by simp[eY]) ?_);have g2:=cN (eY (·.setIfInBounds 1 (gK ((i:Int)+1) 0))) g1 rfl;refine aB ⟨e.2,rfl,aB (hQ _ ?_ ((cH ..).trans (cH ..)))⟩;unfold SetIt;rw[g2];rfl
def FU(hh:A.handled=none)(hr:riseF 0 S)(hz:es.size=S.length)(ho:Ex s.heap a S (i9 w) es ep)(hit:SetIt s.heap I a (lr w S es.size) es.size es.size ep)
  (hQ:∀h',Heap.ExtBut I s.heap h'->Q none {s with heap:=h'}):bA (bH prog w) A (jV (.ref I)) Q E s:=by
 have hf:(ml S (i9 w)).fits es.size=true:=by rw[hz];exact Hg hr
 have he:(gu w a ep es)[es.size]?=none:=by
  have h2:=(gj w a ep es).length_eq;rw[aL,aL]at h2;rw[<-h2];simp
 unfold jV;refine aA (lJ (eV (name:=fX "__next__") hit.ty g8 (cU g8 hit.ty q8 ?_ (q0 _))));unfold Builtin.«set_iterator.__next__»;refine aA (aB ?_);refine aA (mT hit rfl ?_);dsimp only[dR];refine aA (fV ho rfl hf ?_);rw[aJ (by simp)];refine aA (Ly (prog:=prog) hr hz ho (aH _) ?_);rw[show((ep:Int).toNat)=ep from iP ep,he];dsimp only[oN];have hit0:s.heap.get? I=some {cls:=.type "set_iterator",data:=.fields #[dR (lr w S es.size:Nat),dR (es.size:Nat),.ref a,dR (es.size:Nat),dR (ep:Nat)]}:=hit;refine aA (fQ hit0 rfl (by simp) ?_);show bA _ _ (newExc (.type "StopIteration") []>>=raiseNew) _ _ _;refine aA ?_;simp only[newExc,newTuple];refine aA (cL ?_ (by size_fits));refine aA (m:=mU _ _) (lR (a:=cE) (by first|rfl|(simp only[mU];rfl)) ?_);refine cL ?_ (by size_fits);simp only[raiseNew];refine aA (wpAny_handled ?_);rw[show A.in1.handled=none from hh];refine aA (aB (wpAny_throw ?_));refine aA (hG (T:="StopIteration") (b:=true) ⟨_,aX _ rfl,rfl⟩ isSubtype_stop ?_);exact aB (hQ _ (((cH ..).extBut.push _).push _))
def Y3(hr:riseF 0 S)(hz:es.size=S.length)(ho:Ex s.heap a S (i9 w) es ep)
  (hQ:Q (.ref s.heap.objs.size) {s with heap:=s.heap.push {cls:=.type "set_iterator",data:=.fields #[dR (0:Nat),dR (0:Nat),.ref a,dR (es.size:Nat),dR (ep:Nat)]}}):bA (bH prog w) A (pyIter (.ref a)) Q E s:=by
 have hT:s.TypeIs (.ref a) "set":=⟨_,ho,rfl⟩;have hf:(ml S (i9 w)).fits es.size=true:=by rw[hz];exact Hg hr
 refine kR hT iL (cU iL hT Dr ?_ (PySem.F.args_set_iter_1 _));unfold Builtin.«frozenset.__iter__» Builtin.Frozenset.slot0 slotArgs;simp only[List.isEmpty_nil,dJ,Bool.false_eq_true,↓reduceIte,bind_assoc,dC,bne_self_eq_false];unfold Builtin.Frozenset.addrOf Builtin.Frozenset.sizeOf;refine aA (aB ?_)
 try dsimp only
 refine aA (aB ?_);refine aA (aA (fV ho rfl hf (aB ?_)));refine aA ?_;unfold setDrawn;refine aA (cW ho rfl hf ?_);dsimp only;unfold mS;refine aA (aA (eW (aB (aB ?_))));refine iF (λz=>?_) λ_=>?_
 ·exfalso;rw[aF]at z;have z':(!true && decide (es.size>1))=true:=z.2;simp at z'
 ·refine aA (aB (aA (wpAny_setEpoch_of ho rfl hf ?_)));refine aA (cL (aB ⟨_,rfl,"set_iterator",_,⟨_,aX _ rfl,rfl⟩,g8.lookup,hQ⟩) (by size_fits))
def Um(hh:A.handled=none)(hr:riseF 0 S)(hz:es.size=S.length)(hne:a≠I):Walks prog w A I [I,a] [I] es.size (λi v=>∃e,(gu w a ep es)[i]?=some e/\v=e.2) (λi h=>SetIt h I a (lr w S i) i es.size ep/\Ex h a S (i9 w) es ep) where
 sub:=λb hb=>by simp at hb;simp[hb]
 frame:=λ_ _ _ st hk=>⟨hk I (by simp) _ st.1,hk a (by simp) _ st.2⟩
 item:=λi s Q E hi st hQ=>by
  have h2:=(gj w a ep es).length_eq;rw[aL,aL]at h2;have he:(gu w a ep es)[i]?=some ((gu w a ep es)[i]'(by lia)):=bP _;exact Y2 hr hz st.2 st.1 he λh' hit' hs'=>hQ _ h' s.toks ⟨_,he,rfl⟩ ⟨hit',(hs'.2 a hne).trans st.2⟩ λb o hb e=>hs'.extBut b o (λh=>hb (by simp[h])) e
 done:=λs Q E st hQ=>FU hh hr hz st.2 st.1 λh' he'=>hQ h' s.toks λb o hb e=>he' b o (λh=>hb (by simp[h])) e
 self:=λi s Q E st hQ=>by
  refine kR st.1.ty ya (cU ya st.1.ty Du ?_ (Dt _));show bA _ _ (ret (.ref I)) _ _ s;exact aB ⟨_,rfl,"set_iterator",_,st.1.ty,g8.lookup,hQ⟩
def Lx(hT:s.TypeIs (.ref a) "set")(h:Q false s):bA (bH prog w) A (mE (.ref a)) Q E s:=by
 unfold mE;refine aA (gL hT PySem.F.slot_set_len.lookup ?_);generalize hid:("set.__len__":String)=id0
 wp_delta
 rw[show splitId id0=some ("set","__len__")from by subst hid;decide+kernel];subst hid;refine aA (hG (T:="set") (b:=true) hT sub_set_self ?_);refine iF (λhab=>absurd hab (by decide)) (λ_=>?_);refine iF (λ_=>?_) (λhab=>absurd (by decide+kernel) hab);exact aA (jB hT (aB h))
def FJ(hr:riseF 0 S)(hz:es.size=S.length):PySem.W.KdlSrc prog w "set" a a es.size (λi v=>∃e,(gu w a ep es)[i]?=some e/\v=e.2) (λh=>Ex h a S (i9 w) es ep) where
 type:=λ_ hm=>⟨_,hm,rfl⟩
 there:=λ_ hm=>⟨aT hm,aT hm⟩
 keep:=λ_ _ hm hk=>hk a (.inl rfl) _ hm
 notList:=by decide
 notTuple:=by decide
 hint:=λ_ _ _ _ hm hq=>Lx ⟨_,hm,rfl⟩ hq
 iter:=λA s hh hm=>⟨_,_,(λ_ _ hq=>Y3 hr hz hm hq),Um hh hr hz (bJ (aT hm)),⟨by
  have:lr w S 0=0:=by unfold lr;split<;>rfl
  rw[this];exact aX _ rfl,aD _ hm⟩⟩
end
section
variable{X:Cx}
theorem wk:∀{ns:List Int}{us:List aC},Vals (ns.map V.int) us->fO us ns
 |[],_,.nil=>.nil
 |n::ns,_,.cons r t=>by
  obtain⟨tk,rfl⟩:=r;exact .cons n tk (wk t)
def BV(w:bZ)(p:Addr)(S:List Nat):HO:=.ext λh=>SetS h p S (i9 w)
def RI(X:Cx):List V->Hp->VK->Prop:=λxs H Q=>∃a ns,xs=[.ref a]/\(SqL X.K H a (ns.map V.int)\/SqT X.K H a (ns.map V.int))/\Am ns/\∀p,H p=none->Q (.ref p) (upd H p (BV X.w p (wc ns)))
def Ve(hc:X.calm=true):CallR X (.type "set") (RI X):=by
 intro pins s Z H xs us Q I r q;obtain⟨a,ns,rfl,sq,sm,q⟩:=q;obtain⟨u,rfl,ru⟩:=mh r;cases ru;have fin:∀(b:Bool)(its:List aC),(if b=true then s.heap.IsTuple a its.toArray else s.heap.IsList a its.toArray)->fO its ns->bA (bH X.prog X.w) X.A (call (.type "set") [.ref a]) (EP X pins Z Q) X.xe s:=λb its hl hi=>by
  refine R5 b (I.ok.hd hc) hl (by simpa using hi) sm λh' tk hS hk=>?_;refine⟨.ref s.heap.objs.size,_,I.laid (a:=s.heap.objs.size) (o:=BV X.w s.heap.objs.size (wc ns)) (t':=tk) (λb o e=>hk b o (aT e) e) (aH _) ?_,rfl,q _ (I.hok.fresh (aH _))⟩;obtain⟨_,es,ep,ho,_⟩:=id hS;exact⟨hS,⟨_,ho⟩,λh1 h2 x k=>x.keep k⟩
 rcases sq with sq|sq
 ·obtain⟨its,rv,pl,_⟩:=I.list sq;exact fin false its pl.isList (wk rv)
 ·obtain⟨its,rv,pl,_⟩:=I.tuple sq;exact fin true its pl (wk rv)
def Su:∀{vs us:List aC},vs.Perm us->∀{ns:List Int},fO us ns->∃ms:List Int,fO vs ms/\ms.Perm ns:=by
 intro vs us p;induction p with
 |nil=>intro ns h;cases h;exact⟨[],.nil,hO _⟩
 |cons x p ih=>
  intro ns h;cases h with
  |cons n t r=>
   obtain⟨ms,h1,h2⟩:=ih r;exact⟨n::ms,.cons n t h1,h2.cons n⟩
 |swap x y l=>
  intro ns h;cases h with
  |cons n t r=>
   cases r with
   |cons n' t' r=>exact⟨n'::n::_,.cons _ _ (.cons _ _ r),kQ _ _ _⟩
 |trans p1 p2 ih1 ih2=>
  intro ns h;obtain⟨ms,h1,h2⟩:=ih2 h;obtain⟨ks,h3,h4⟩:=ih1 h1;exact⟨ks,h3,h4.trans h2⟩
theorem riseF.pw:∀{S:List Nat}{m:Nat},riseF m S->(S.map jD).Pairwise (· <=·)
 |[],_,_=>iQ
 |k::r,m,⟨h1,h2,h3⟩=>by
  rw[aV];refine List.Pairwise.cons (λx hx=>?_) (riseF.pw h3);obtain⟨j,hj,rfl⟩:=List.mem_map.mp hx;have:=(riseF.lt h3 j hj).1;show(k:Int)<=(j:Int)
  lia
def Yq(X:Cx):List V->Hp->VK->Prop:=λxs H Q=>∃p S,xs=[.ref p]/\H p=some (BV X.w p S)/\∀q,H q=none->Q (.ref q) (upd H q (.lst (S.map λ(k:Nat)=>V.int (k:Int))))
def My(hc:X.calm=true):CallR X (.builtin "sorted") (Yq X):=by
 intro pins s Z H xs us Q I r q;obtain⟨p,S,rfl,hp,q⟩:=q;obtain⟨u,rfl,ru⟩:=mh r;cases ru;obtain⟨⟨hr,es,ep,ho,h1,h2⟩,_,_⟩:=I.hok p _ hp;have hz:es.size=S.length:=by have:=congrArg gS h1;simpa using this
 have hz6:=hr.len (by lia);refine Calls.call_function_entry kind_sorted plain_sorted entry_sorted (args_sorted1 _) ?_;unfold Builtin.«sorted»;refine aA (m:=checkCount "sorted" 1 1 _) (aB ?_);refine aA (PySem.W.kdu_collect (A:=X.A.in1) (FJ hr hz) (I.ok.hd hc) ho (by rw[hz,cD];lia) λh' tk acc hk hacc=>?_);have al:acc.toList.length=es.size:=by rw[aL];exact hacc.1
 have ew:acc.toList=(gu X.w p ep es).toList.map (·.2):=by
  have wl:=(gj X.w p ep es).length_eq;refine nF λi=>?_
  by_cases hi:i<acc.size
  ·have hi':acc.toList[i]?=some acc[i]:=by rw[bO];exact bP hi
   obtain⟨e,e1,e2⟩:=hacc.2 i acc[i] (bP hi);rw[hi',bM,bO,e1,e2];rfl
  ·rw[eM (by rw[aL];lia),eM (by rw[aO,wl,aL,<-hacc.1];lia)]
 obtain⟨ms,m1,m2⟩:=Su (show acc.toList.Perm (es.toList.map (·.2)) by rw[ew];exact(gj X.w p ep es).map _) h2;refine aA (lK ?_ (by rw[al,hz,cD];lia));have hoL:(h'.push {cls:=.type "list",data:=.seq acc.toList.toArray}).get? h'.objs.size=some (dP "list" acc.toList.toArray 0):=aX _ rfl;refine aA (cM (cU slot_list_sort ⟨_,hoL,rfl⟩ oR (list_sort_tree hoL m1 (by rw[al,hz];lia) λout ns' a1 a2 a3=>⟨_,rfl,?_⟩) (args_list_sort _)));have en:ns'=S.map jD:=PySem.W.ksm_same (a2.trans m2) a3 hr.pw;subst en;refine aB ⟨_,rfl,?_⟩;obtain⟨e,hat⟩:=sortedHeap_at (out:=out) hoL;have I':Inv X pins Z H {s with heap:=h',toks:=tk}:=I.kept hk;have z:(S.map λ(k:Nat)=>V.int (k:Int)).length<=aQ:=by rw[aO,cD];lia
 refine⟨.ref h'.objs.size,_,I'.laid (a:=h'.objs.size) (o:=.lst (S.map λ(k:Nat)=>V.int (k:Int))) (t':=tk) (λb o e=>?_) (aH _) ⟨z,out.toList,e,?_,by rw[lS];exact hat⟩,rfl,q _ (I'.hok.fresh (aH _))⟩
 ·have hlt:=aT e;rw[sortedHeap_old (bJ hlt) (by rw[fA];exact gV hlt)];exact aD _ e
 ·have:=zr a1;rw[dA]at this;exact this
end
def tf:List D->Option (List Int)
 |[]=>some []
 |.int n::r=>(tf r).map (n::·)
 |_::_=>none
def q9(ns:List Int):Bool:=ns.all λn=>decide (0<=n) && decide (n<6)
def T4{ns:List Int}(h:q9 ns=true):Am ns:=λn hn=>by
 have:=List.all_eq_true.mp h n hn;simpa using this
theorem Fm{K:KA}{G:Hp}:∀{ds:List D}{ns:List Int}{vs:List V},tf ds=some ns->DenL K G ds vs->vs=ns.map V.int
 |[],ns,vs,h,d=>by cases h;exact d
 |d::r,ns,vs,h,⟨v,vr,e1,e2,e3⟩=>by
  cases d with
  |int n=>
   unfold tf at h;cases hr:tf r with
   |none=>rw[hr]at h;cases h
   |some ms=>
    rw[hr]at h;cases h;rw[e1,Fm hr e3,show v=.int n from e2];rfl
  |_=>cases h
def Lv:D->Option (List Nat)
 |.lst ds=>(tf ds).bind λns=>if q9 ns then some (wc ns)else none
 |.tup ds=>(tf ds).bind λns=>if q9 ns then some (wc ns)else none
 |_=>none
def ah(S:List Nat):List D:=S.map λ(k:Nat)=>.int (k:Int)
def j5(d:D):Option D:=(Lv d).map λS=>.lst (ah S)
theorem yu{K:KA}{G:Hp}:∀S:List Nat,DenL K G (ah S) (S.map λ(k:Nat)=>V.int (k:Int))
 |[]=>rfl
 |k::S=>⟨.int k,_,rfl,rfl,yu S⟩
section
variable{X:Cx}{B:Hp}{E:EK}{e:Expr}{g:En->Res}{pos p pos' p':Pos}
def T3{K:KA}{G H:Hp}{d:D}{v:V}{S:List Nat}(sg:Same G H)(ax:Arg K G H d v)(h:Lv d=some S):∃a ns,v=.ref a/\(SqL K H a (ns.map V.int)\/SqT K H a (ns.map V.int))/\Am ns/\wc ns=S:=by
 have key:∀{ds:List D}{vs:List V},((tf ds).bind λns=>if q9 ns then some (wc ns)else none)=some S->DenL K G ds vs->∃ns,vs=ns.map V.int/\Am ns/\wc ns=S:=λ{ds vs} h dl=>by
  cases hi:tf ds with
  |none=>rw[hi]at h;cases h
  |some ns=>
   rw[hi]at h;have h':(if q9 ns then some (wc ns)else none)=some S:=h
   by_cases hb:q9 ns=true
   ·rw[aG hb]at h';cases h';exact⟨ns,Fm hi dl,T4 hb,rfl⟩
   ·rw[aJ hb]at h';cases h'
 cases d with
 |lst ds=>
  obtain⟨a,vs,rfl,sq,dl⟩:=ax.lst sg;obtain⟨ns,rfl,q1,q2⟩:=key h dl;exact⟨a,ns,rfl,.inl sq,q1,q2⟩
 |tup ds=>
  obtain⟨a,vs,rfl,sq,dl⟩:=ax.tup sg;obtain⟨ns,rfl,q1,q2⟩:=key h dl;exact⟨a,ns,rfl,.inr sq,q1,q2⟩
 |_=>cases h
end
end Pu
end
section
namespace Pu
open PySem PySem.Spec PyProof.Rows L2 PySem.W
def GoOk(n:Nat)(cmp:Nat->Nat->Bool):KasT α->(α->Prop)->Prop
 |.ret a,R=>R a
 |.ask i j k,R=>i<n/\j<n/\GoOk n cmp (k (cmp i j)) R
section
variable{n:Nat}{cmp:Nat->Nat->Bool}
theorem GoOk.mono{R R':α->Prop}(h:∀a,R a->R' a):∀{t:KasT α},GoOk n cmp t R->GoOk n cmp t R'
 |.ret a,g=>h a g
 |.ask i j k,⟨g1,g2,g3⟩=>⟨g1,g2,GoOk.mono h g3⟩
theorem GoOk.bind:∀{t:KasT α},GoOk n cmp t (λa=>GoOk n cmp (f a) R)->GoOk n cmp (t.bind f) R
 |.ret a,g=>g
 |.ask i j k,⟨g1,g2,g3⟩=>⟨g1,g2,GoOk.bind g3⟩
theorem GoOk.wp{α:Type}{C:Nat->Nat->(Bool->aI->Prop)->aI->Prop}{R:α->Prop}{Q:α->aI->Prop}{s:aI}(hc:∀i j (K:Bool->aI->Prop),i<n->j<n->K (cmp i j) s->C i j K s)(hq:∀a,R a->Q a s):
  ∀{t:KasT α},GoOk n cmp t R->t.kasWp C Q s
 |.ret a,g=>hq a g
 |.ask i j k,⟨g1,g2,g3⟩=>hc i j _ g1 g2 (GoOk.wp hc hq g3)
structure Ord(n:Nat)(cmp:Nat->Nat->Bool):Prop where
 as:∀i j,i<n->j<n->i≠j->cmp j i= !cmp i j
 tr:∀i j k,i<n->j<n->k<n->cmp i j=true->cmp j k=true->cmp i k=true
def At(p:Array Nat)(i:Nat):Nat:=p.getD i 0
def PermR(n:Nat)(p:Array Nat):Prop:=p.toList.Perm (aW n)
theorem PermR.size{p:Array Nat}(h:PermR n p):p.size=n:=by
 have:=List.Perm.length_eq h;simpa using this
def Jh{p:Array Nat}(h:i<p.size):At p i=p[i]:=by
 unfold At;simp[mV,h]
def PermR.lt{p:Array Nat}(h:PermR n p){i:Nat}(hi:i<n):At p i<n:=by
 have hs:i<p.size:=by rw[h.size];exact hi
 rw[Jh hs];exact List.mem_range.mp (h.mem_iff.mp (by simp))
def PermR.ne(h:PermR n p)(hi:i<n)(hj:j<n)(e:i≠j):At p i≠At p j:=by
 have hs:i<p.size:=by rw[h.size];exact hi
 have ht:j<p.size:=by rw[h.size];exact hj
 rw[Jh hs,Jh ht];have nd:p.toList.Nodup:=(h.nodup_iff).mpr List.nodup_range;intro z;have pw:=List.pairwise_iff_getElem.mp nd;rcases mY e with q|q
 ·exact pw i j (by simpa using hs) (by simpa using ht) q (by simpa using z)
 ·exact pw j i (by simpa using ht) (by simpa using hs) q (by simpa using z.symm)
def So(cmp:Nat->Nat->Bool)(p:Array Nat)(m:Nat):Prop:=∀a b,a<b->b<m->cmp (At p a) (At p b)=true
def De(cmp:Nat->Nat->Bool)(p:Array Nat)(m:Nat):Prop:=∀a b,a<b->b<m->cmp (At p b) (At p a)=true
def So.succ(O:Ord n cmp)(hp:PermR n p)(h1:1<=m)(hm:m<n)(h:So cmp p m)(hc:cmp (At p m) (At p (m - 1))=false):So cmp p (m+1):=by
 intro a b hab hb
 by_cases hb':b<m
 ·exact h a b hab hb'
 ·obtain rfl:b=m:=by lia
  have e:cmp (At p (b - 1)) (At p b)=true:=by
   have:=O.as (At p b) (At p (b - 1)) (hp.lt hm) (hp.lt (by lia)) (hp.ne hm (by lia) (by lia));rw[this,hc];rfl
  by_cases ha:a=b - 1
  ·rw[ha];exact e
  ·exact O.tr _ _ _ (hp.lt (by lia)) (hp.lt (by lia)) (hp.lt hm) (h a (b - 1) (by lia) (by lia)) e
def De.succ(O:Ord n cmp)(hp:PermR n p)(h1:1<=m)(hm:m<n)(h:De cmp p m)(hc:cmp (At p m) (At p (m - 1))=true):De cmp p (m+1):=by
 intro a b hab hb
 by_cases hb':b<m
 ·exact h a b hab hb'
 ·obtain rfl:b=m:=by lia
  by_cases ha:a=b - 1
  ·rw[ha];exact hc
  ·exact O.tr _ _ _ (hp.lt hm) (hp.lt (by lia)) (hp.lt (by lia)) hc (h a (b - 1) (by lia) (by lia))
theorem Mu{p:Array Nat}(O:Ord n cmp)(hp:PermR n p):∀(f m:Nat),1<=m->m+f<=n->So cmp p m->GoOk n cmp (kas_asc p f m) (λk=>m<=k/\k<=m+f/\So cmp p k/\(k<m+f->cmp (At p k) (At p (k - 1))=true))
 |0,m,h1,h2,h=>⟨aH _,aH _,h,λz=>by lia⟩
 |f+1,m,h1,h2,h=>by
  refine⟨hp.lt (show m<n by lia),hp.lt (show m - 1<n by lia),?_⟩;show GoOk n cmp (if cmp (At p m) (At p (m - 1))=true then KasT.ret m else kas_asc p f (m+1)) _
  by_cases hc:cmp (At p m) (At p (m - 1))=true
  ·rw[aG hc];exact⟨aH _,by lia,h,λ_=>hc⟩
  ·rw[aJ hc];refine(Mu O hp f (m+1) (by lia) (by lia) (h.succ O hp h1 (by lia) (by simpa using hc))).mono λk g=>?_;obtain⟨g1,g2,g3,g4⟩:=g;exact⟨by lia,by lia,g3,λz=>g4 (by lia)⟩
theorem Py{p:Array Nat}(O:Ord n cmp)(hp:PermR n p):∀(f m:Nat),2<=m->m+f<=n->De cmp p m->GoOk n cmp (kas_desc f p m 0) (λr=>r.1=p/\r.2.2=0/\m<=r.2.1/\r.2.1<=m+f/\De cmp p r.2.1)
 |0,m,h1,h2,h=>⟨rfl,rfl,aH _,aH _,h⟩
 |f+1,m,h1,h2,h=>by
  have l1:At p m<n:=hp.lt (by lia);have l2:At p (m - 1)<n:=hp.lt (by lia);refine⟨l1,l2,?_⟩;show GoOk n cmp (if cmp (At p m) (At p (m - 1))=true then(if 0>0 then kas_desc f (kas_rev p (m - (0+1)) m) (m+1) 0 else kas_desc f p (m+1) 0)
   else .ask (At p (m - 1)) (At p m) λd=>if d=true then .ret (p,m,0)else kas_desc f p (m+1) (0+1)) _
  by_cases hc:cmp (At p m) (At p (m - 1))=true
  ·rw[aG hc,aJ (by lia)];refine(Py O hp f (m+1) (by lia) (by lia) (h.succ O hp (by lia) (by lia) hc)).mono λr g=>?_;obtain⟨g1,g2,g3,g4,g5⟩:=g;exact⟨g1,g2,by lia,by lia,g5⟩
  ·rw[aJ hc];have e:cmp (At p (m - 1)) (At p m)=true:=by
    have:=O.as (At p m) (At p (m - 1)) l1 l2 (hp.ne (by lia) (by lia) (by lia));rw[this];simpa using hc
   refine⟨l2,l1,?_⟩;dsimp only;rw[aG e];exact⟨rfl,rfl,aH _,(show m<=m+(f+1) by lia),h⟩
def PermR.rev(hp:PermR n p)(i j:Nat):PermR n (kas_rev p i j):=(Array.perm_iff_toList_perm.mp (mirror_perm p i j _)).trans hp
def PermR.bub(hp:PermR n p)(i j:Nat):PermR n (bubble p i j):=(Array.perm_iff_toList_perm.mp (bubble_perm p i j)).trans hp
def yn:At p i=(p[i]?).getD 0:=by
 unfold At;simp[Array.getD_eq_getD_getElem?]
def U0{p:Array Nat}(hm:m<=p.size)(hk:k<m):At (kas_rev p 0 m) k=At p (m - 1 - k):=by
 rw[yn,yn];unfold kas_rev;rw[getElem?_mirror_all hm];rw[aG (by lia)]
 congr 2
 lia
def Zo{m:Nat}(O:Ord n cmp)(hp:PermR n p)(h1:1<=m)(h2:m<=n)(h:De cmp p m):GoOk n cmp (kas_tail3 m n p) (λr=>PermR n r.2/\1<=r.1/\r.1<=n/\So cmp r.2 r.1):=by
 unfold kas_tail3;have hr:=hp.rev 0 m;have hs:So cmp (kas_rev p 0 m) m:=λa b hab hb=>by
  have hz:m<=p.size:=by rw[hp.size];exact h2
  rw[U0 hz (by lia),U0 hz hb];exact h _ _ (by lia) (by lia)
 refine GoOk.bind ((Mu O hr (n - m) m h1 (by lia) hs).mono λk g=>?_);obtain⟨g1,g2,g3,_⟩:=g;exact⟨hr,by lia,by lia,g3⟩
def Vo{p:Array Nat}(O:Ord n cmp)(hp:PermR n p)(h2:2<=n):GoOk n cmp (kas_count n p) (λr=>PermR n r.2/\1<=r.1/\r.1<=n/\So cmp r.2 r.1):=by
 unfold kas_count;refine GoOk.bind ((Mu O hp (n - 1) 1 (aH _) (by lia) (λa b h1 h2=>by lia)).mono λm g=>?_);obtain⟨g1,g2,g3,g4⟩:=g
 by_cases e1:(m==n)=true
 ·rw[aG e1];exact⟨hp,g1,by lia,g3⟩
 ·rw[aJ e1];have ne:m≠n:=λz=>e1 (by rw[z];exact beq_self_eq_true _)
  by_cases e2:m>1
  ·rw[aG e2];refine⟨hp.lt (show 0<n by lia),hp.lt (show m - 1<n by lia),?_⟩;have:cmp (At p 0) (At p (m - 1))=true:=g3 0 (m - 1) (by lia) (by lia);show GoOk n cmp (if cmp (At p 0) (At p (m - 1))=true then _ else _) _;rw[aG this];exact⟨hp,g1,by lia,g3⟩
  ·rw[aJ e2];obtain rfl:m=1:=by lia
   have c0:=g4 (by lia);unfold kas_descPart;refine GoOk.bind ((Py O hp (n - 2) 2 (aH _) (by lia) (λa b h1 h2=>?_)).mono λr g=>?_)
   ·obtain rfl:b=1:=by lia
    obtain rfl:a=0:=by lia
    exact c0
   ·obtain⟨k1,k2,k3,k4,k5⟩:=g;rw[k1,k2,aJ (by lia)];exact Zo O hp (by lia) (by lia) k5
theorem Di(O:Ord n cmp)(hp:PermR n p)(hk:k<n)(hs:So cmp p k):∀(f l r:Nat),l<=r->r<=k->r - l<=f->(∀a,a<l->cmp (At p a) (At p k)=true)->(∀a,r<=a->a<k->cmp (At p k) (At p a)=true)->
  GoOk n cmp (kas_place p k f l r) (λm=>m<=k/\(∀a,a<m->cmp (At p a) (At p k)=true)/\(∀a,m<=a->a<k->cmp (At p k) (At p a)=true))
 |0,l,r,h1,h2,h3,h4,h5=>by
  obtain rfl:l=r:=by lia
  exact⟨h2,h4,h5⟩
 |f+1,l,r,h1,h2,h3,h4,h5=>by
  unfold kas_place
  by_cases hl:l>=r
  ·rw[aG hl];obtain rfl:l=r:=by lia
   exact⟨h2,h4,h5⟩
  ·rw[aJ hl];have hm:(l+r) / 2<k:=by lia
   refine⟨hp.lt hk,hp.lt (by lia),?_⟩;show GoOk n cmp (if cmp (At p k) (At p ((l+r) / 2))=true then kas_place p k f l ((l+r) / 2)else kas_place p k f ((l+r) / 2+1) r) _
   by_cases hc:cmp (At p k) (At p ((l+r) / 2))=true
   ·rw[aG hc];refine Di O hp hk hs f l _ (by lia) (by lia) (by lia) h4 λa a1 a2=>?_
    by_cases z:a=(l+r) / 2
    ·rw[z];exact hc
    ·exact O.tr _ _ _ (hp.lt hk) (hp.lt (by lia)) (hp.lt (by lia)) hc (hs _ _ (by lia) a2)
   ·rw[aJ hc];have e:cmp (At p ((l+r) / 2)) (At p k)=true:=by
     have:=O.as (At p k) (At p ((l+r) / 2)) (hp.lt hk) (hp.lt (by lia)) (hp.ne hk (by lia) (by lia));rw[this];simpa using hc
    refine Di O hp hk hs f _ r (by lia) (by lia) (by lia) (λa ha=>?_) h5
    by_cases z:a=(l+r) / 2
    ·rw[z];exact e
    ·exact O.tr _ _ _ (hp.lt (by lia)) (hp.lt (by lia)) (hp.lt hk) (hs a _ (by lia) (by lia)) e
def Uz{p:Array Nat}(hk:k<p.size)(hl:l<=k)(i:Nat):At (bubble p k (k - l)) i=if i=l then At p k else if l<i/\i<=k then At p (i - 1)else At p i:=by
 rw[yn,getElem?_bubble hk (k - l) (by lia),yn,yn,yn];have e:k - (k - l)=l:=by lia
 by_cases h1:i=l
 ·subst h1;simp[e]
 ·by_cases h2:l<i/\i<=k
  ·simp[e,h1,h2]
  ·simp[e,h1,h2]
theorem Pk(O:Ord n cmp):∀(f k:Nat)(p:Array Nat),PermR n p->1<=k->k+f=n->So cmp p k->GoOk n cmp (kas_bin f p k) (λq=>PermR n q/\So cmp q n)
 |0,k,p,hp,h1,h2,hs=>by
  obtain rfl:k=n:=by lia
  exact⟨hp,hs⟩
 |f+1,k,p,hp,h1,h2,hs=>by
  unfold kas_bin;have hk:k<n:=by lia
  refine GoOk.bind ((Di O hp hk hs k 0 k (bX _) (aH _) (by lia) (λa h=>by lia) (λa h h'=>by lia)).mono λl g=>?_);obtain⟨g1,g2,g3⟩:=g;refine Pk O f (k+1) _ (hp.bub _ _) (by lia) (by lia) λa b hab hb=>?_;have hz:k<p.size:=by rw[hp.size];exact hk
  rw[Uz hz g1,Uz hz g1]
  by_cases a1:a=l
  ·rw[aG a1,aJ (by lia),aG (by lia)];exact g3 _ (by lia) (by lia)
  ·rw[aJ a1]
   by_cases a2:l<a/\a<=k
   ·rw[aG a2,aJ (by lia),aG (by lia)];exact hs _ _ (by lia) (by lia)
   ·rw[aJ a2]
    by_cases b1:b=l
    ·rw[aG b1];exact g2 _ (by lia)
    ·rw[aJ b1]
     by_cases b2:l<b/\b<=k
     ·rw[aG b2];exact hs _ _ (by lia) (by lia)
     ·rw[aJ b2];exact hs _ _ hab (by lia)
def FM(O:Ord n cmp)(h2:2<=n):GoOk n cmp (kas_sort n) (λq=>PermR n q/\So cmp q n):=by
 unfold kas_sort;refine GoOk.bind ((Vo O (by unfold PermR;simp) h2).mono λr g=>?_);obtain⟨g1,g2,g3,g4⟩:=g
 by_cases hr:r.1<n
 ·rw[aG hr];have:max r.1 1=r.1:=by lia
  rw[this];exact Pk O _ _ _ g1 g2 (by lia) g4
 ·rw[aJ hr];obtain e:r.1=n:=by lia
  rw[e]at g4;exact⟨g1,g4⟩
end
end Pu
end
section
namespace Pu
open PySem PySem.Spec PyProof.Rows L2 PySem.SeqAt PySem.W
def JZ(i j:Int):dB (.int i) (.int j)=(i==j):=by rw[dB]
theorem Aa:∀(c d:List Int),iH (c.map .int) (d.map .int)=decide (c=d)
 |[],[]=>by simp[iH]
 |[],_::_=>by simp[iH]
 |_::_,[]=>by simp[iH]
 |i::c,j::d=>by
  rw[aV,aV,iH,Aa c d,JZ]
  by_cases h:i=j<;>simp[h]
theorem tq:∀(k l:List Int),gy (k.map .int) (l.map .int)=some (decide (k<l))
 |[],[]=>by simp[gy]
 |[],_::_=>by simp[gy]
 |_::_,[]=>by simp[gy]
 |i::k,j::l=>by
  rw[aV,aV,gy,tq k l,JZ];show some (if(i==j)=true then decide (k<l)else decide (i<j))=_
  congr 1
  by_cases h:i=j
  ·subst h;simp[iM]
  ·have:(i==j)=false:=by simpa using h
   rw[this];simp[iM,h]
theorem jl:∀k:List Int,bB (k.map .int)=true
 |[]=>rfl
 |i::k=>by
  rw[aV,bB,jl k];rfl
theorem su:∀k:List Int,bV (k.map .int)=0
 |[]=>rfl
 |i::k=>by
  rw[aV,bV,su k];rfl
def NW:Nat->List Int->List jI->Prop
 |0,k,xs=>k≠[]/\xs=k.map .int
 |1,k,xs=>∃i c,k=i::c/\xs=[.int i,.tuple (c.map .int)]
 |_,_,_=>False
def GY(c d:List Int):gy [.tuple (c.map .int)] [.tuple (d.map .int)]=some (decide (c<d)):=by
 have e1:KY (.tuple (c.map .int)) (.tuple (d.map .int))=some (decide (c<d)):=by rw[KY];exact tq c d
 have e2:dB (.tuple (c.map .int)) (.tuple (d.map .int))=decide (c=d):=by rw[dB];exact Aa c d
 rw[gy,e1,e2];show some (if decide (c=d)=true then false else decide (c<d))=_
 by_cases z:c=d
 ·subst z;simp
 ·simp[z]
def NV(h:NW b k xs)(h':NW b l ys):gy xs ys=some (decide (k<l)):=by
 match b,h,h' with
 |0,h,h'=>rw[h.2,h'.2];exact tq k l
 |1,h,h'=>
  obtain⟨i,c,rfl,rfl⟩:=h;obtain⟨j,d,rfl,rfl⟩:=h';rw[gy,GY,JZ];show some (if(i==j)=true then decide (c<d)else decide (i<j))=_
  congr 1
  by_cases z:i=j
  ·subst z;simp[iM]
  ·have:(i==j)=false:=by simpa using z
   rw[this];simp[iM,z]
 |_+2,h,_=>exact h.elim
def FT(b:Nat)(d:jI):Prop:=if b<2 then∃i,d=.int i else∃x,d=.str x
def Ii(h:NW b k xs):bB xs=true/\bV xs<=1/\∃d r,FT b d/\xs=d::r:=by
 match b,h with
 |0,h=>
  obtain⟨h1,rfl⟩:=h;refine⟨jl k,by rw[su];lia,?_⟩;cases k with
  |nil=>exact absurd rfl h1
  |cons i c=>exact⟨_,_,⟨i,rfl⟩,rfl⟩
 |1,h=>
  obtain⟨i,c,rfl,rfl⟩:=h;refine⟨?_,?_,_,_,⟨i,rfl⟩,rfl⟩
  ·rw[bB,bB,bB,dI,dI,jl c];rfl
  ·rw[bV,bV,bV,jE,jE,su c];simp
 |_+2,h=>exact h.elim
section
variable{prog:bQ}{w:bZ}{A:cG}{E:aC->aI->Prop}{s:aI}
theorem Wv:∀(xs ys:List jI)(vs ws:List aC)(i:Nat)(as bs:List Addr)(c:Bool),ReadsAll s.heap vs xs as->ReadsAll s.heap ws ys bs->bB xs=true->bB ys=true->
  A.units+min (bV xs) (bV ys)<eL->gy xs ys=some c->fin=decide (xs.length<ys.length)->(i=0->∀x y,xs.head?=some x->ys.head?=some y->(∃a b,x=.int a/\y=.int b)\/∃a b,x=.str a/\y=.str b)->Q c s->KatLex prog w A true fin Q (vs.zip ws) i s
 |[],[],vs,ws,i,as,bs,c,ra,rb,ha,hb,hu,hl,hf,h0,q=>by
  cases ra;cases rb;cases hl;subst hf;exact kat_nil q
 |[],y::ys,vs,ws,i,as,bs,c,ra,rb,ha,hb,hu,hl,hf,h0,q=>by
  cases ra;cases rb;cases hl;have:fin=true:=by rw[hf];simp
  subst this;exact kat_nil q
 |x::xs,[],vs,ws,i,as,bs,c,ra,rb,ha,hb,hu,hl,hf,h0,q=>by
  cases ra;cases rb;cases hl;have:fin=false:=by rw[hf];simp
  subst this;exact kat_nil q
 |x::xs,y::ys,_,_,i,_,_,c,ra,rb,ha,hb,hu,hl,hf,h0,q=>by
  have ha':x.canLay0=true/\bB xs=true:=by simpa[bB]using ha
  have hb':y.canLay0=true/\bB ys=true:=by simpa[bB]using hb
  obtain⟨a,b,l1,l2,rfl⟩:=tm hl;cases ra with
  |@cons v vr _ _ as1 as2 r rs=>
   cases rb with
   |@cons v' vr' _ _ bs1 bs2 r' rs'=>
    refine kat_cons (eqAt_reads x y A s _ _ _ _ r r' ha'.1 hb'.1 (room_head hu) prog w _ _ ?_);cases he:dB x y with
    |true=>
     rw[he,aG rfl]at q;exact kat_yes (Wv xs ys _ _ (i+1) _ _ b rs rs' ha'.2 hb'.2 (room_tail hu) l2 (by rw[hf];simp) (λz=>by lia) q)
    |false=>
     rw[he,aJ (by simp)]at q;refine kat_no ?_
     by_cases hi:i=0
     ·rcases h0 hi x y rfl rfl with ⟨m,n,rfl,rfl⟩|⟨m,n,rfl,rfl⟩
      ·subst hi;cases r;cases r';cases l1;exact oneLt_int q
      ·subst hi;cases r;cases r';cases l1;exact oneLt_str q
     ·have:(i==0)=false:=by simpa using hi
      rw[this,hJ];exact kat_one _ _ (C7 x y A s _ _ _ _ a r r' ha'.1 hb'.1 (room_head hu) l1 prog w _ _ q)
def JH(rx:Reads s.heap x (.tuple xs) as)(ry:Reads s.heap y (.tuple ys) bs)(sx:NW b k xs)(sy:NW b l ys)(hu:A.units+1<eL)(h:Q (decide (k<l)) s):
  bA (bH prog w) A (keyLt' (tuples' true) x y) Q E s:=by
 obtain⟨c1,d1,i1,r1,t1,e1⟩:=Ii sx;obtain⟨c2,d2,i2,r2,t2,e2⟩:=Ii sy;have hs:=NV sx sy;cases rx with
 |@tuple a o vs n _ as1 h1 h2 h3 h4=>
  cases ry with
  |@tuple a' o' vs' n' _ bs1 k1 k2 k3 k4=>
   have n1:vs.size=xs.length:=by simpa using ReadsAll.length _ _ _ h4
   have n2:vs'.size=ys.length:=by simpa using ReadsAll.length _ _ _ k4
   refine kat_lt h1 h3 k1 k3 (Wv xs ys _ _ 0 _ _ _ h4 k4 c1 c2 ?_ hs (by rw[n1,n2]) (λ_ x y hx hy=>?_) h)
   ·have:min (bV xs) (bV ys)<=1:=cB (Nat.min_le_left _ _) d1
    lia
   ·rw[e1]at hx;rw[e2]at hy;cases hx;cases hy;unfold FT at t1 t2
    by_cases hb:b<2
    ·rw[aG hb]at t1 t2;obtain⟨i,rfl⟩:=t1;obtain⟨j,rfl⟩:=t2;exact .inl ⟨_,_,rfl,rfl⟩
    ·rw[aJ hb]at t1 t2;obtain⟨i,rfl⟩:=t1;obtain⟨j,rfl⟩:=t2;exact .inr ⟨_,_,rfl,rfl⟩
def KeysAre(s:aI)(b:Nat):List aC->List (List Int)->Prop
 |[],[]=>True
 |v::vs,k::ks=>(∃xs as,Reads s.heap v (.tuple xs) as/\NW b k xs)/\KeysAre s b vs ks
 |_,_=>False
theorem KeysAre.len:∀{vs:List aC}{ks:List (List Int)},KeysAre s b vs ks->ks.length=vs.length
 |[],[],_=>rfl
 |[],_::_,h=>h.elim
 |_::_,[],h=>h.elim
 |v::vs,k::ks,⟨_,h⟩=>by rw[aE,aE,KeysAre.len h]
theorem KeysAre.get:∀{vs:List aC}{ks:List (List Int)},KeysAre s b vs ks->∀{i:Nat},i<vs.length->∃xs as,Reads s.heap (vs.getD i cE) (.tuple xs) as/\NW b (ks.getD i []) xs
 |[],_,_,i,h=>by simp at h
 |_::_,[],h,_,_=>h.elim
 |v::vs,k::ks,⟨h0,_⟩,0,_=>h0
 |v::vs,k::ks,⟨_,h⟩,i+1,hi=>by
  have:=KeysAre.get h (i:=i) (by simpa using hi);simpa using this
def FV(b:Nat)(v:aC):Prop:=if b<2 then∃n t,v=gK n t else∃x t,v=oY x t
theorem KeysAre.firsts:∀{vs:List aC}{ks:List (List Int)},KeysAre s b vs ks->∃fs,KatTups s.heap vs fs/\fs.length=vs.length/\∀v∈fs,FV b v
 |[],[],_=>⟨[],.nil,rfl,λv h=>by simp at h⟩
 |[],_::_,h=>h.elim
 |_::_,[],h=>h.elim
 |v::vs,k::ks,⟨⟨xs,as,r,sh⟩,h⟩=>by
  obtain⟨fs,f1,f2,f3⟩:=KeysAre.firsts h;obtain⟨_,_,d,q,td,rfl⟩:=Ii sh;cases r with
  |@tuple a o ws n _ as1 h1 h2 h3 h4=>
   cases hw:ws.toList with
   |nil=>rw[hw]at h4;cases h4
   |cons u us=>
    rw[hw]at h4;cases h4 with
    |cons r rs=>
     have fu:FV b u:=by
      unfold FT at td;unfold FV
      by_cases hb:b<2
      ·rw[aG hb]at td⊢;obtain⟨i,rfl⟩:=td;cases r with
       |int _ t=>exact⟨_,_,rfl⟩
      ·rw[aJ hb]at td⊢;obtain⟨i,rfl⟩:=td;cases r with
       |str _ t=>exact⟨_,_,rfl⟩
     refine⟨u::fs,KatTups.cons h1 h2 h3 ?_ f1,by simp[f2],λv hv=>?_⟩
     ·have:ws.toList[0]?=some u:=by rw[hw];rfl
      simpa using this
     ·rcases List.mem_cons.mp hv with rfl|hv
      ·exact fu
      ·exact f3 v hv
def ux(kz:List (List Int))(i j:Nat):Bool:=decide (kz.getD i []<kz.getD j [])
def Xm{kz:List (List Int)}(nd:kz.Nodup):Ord kz.length (ux kz) where
 as:=λi j hi hj ne=>by
  have e:kz.getD i []≠kz.getD j []:=by
   rw[show kz.getD i []=kz[i] by simp[hi],show kz.getD j []=kz[j] by simp[hj]];have pw:=List.pairwise_iff_getElem.mp nd;rcases mY ne with q|q
   ·exact pw i j hi hj q
   ·exact(pw j i hj hi q).symm
  unfold ux
  by_cases z:kz.getD i []<kz.getD j []
  ·have:¬kz.getD j []<kz.getD i []:=λy=>List.lt_irrefl _ (lM z y);rw[decide_eq_true z,decide_eq_false this];rfl
  ·have:kz.getD j []<kz.getD i []:=Std.lt_of_le_of_ne z (fM e);rw[decide_eq_true this,decide_eq_false z];rfl
 tr:=λi j k _ _ _ h1 h2=>by
  unfold ux at *;exact decide_eq_true (lM (of_decide_eq_true h1) (of_decide_eq_true h2))
def wo(prog:bQ)(w:bZ)(A:cG)(ks vs:List aC)(R:Array Nat->Prop)(s:aI):Prop:=
 ∀E:aC->aI->Prop,bA (bH prog w) A (keyKind' ks.toArray) (λκ s'=>s'=s/\∀E':aC->aI->Prop,bA (bH prog w) A (sortRuns'.run (SortSt.mk' κ (ks.toArray.zip vs.toArray) #[] 7 none)) (λr s''=>
  s''=s/\failedOf r.2=none/\∃p:Array Nat,R p/\p.size=vs.length/\(arrOf r.2).map (·.2)=List.toArray (p.toList.map λi=>vs.getD i cE)) E' s) E s
def Yv{ks vs:List aC}{kz:List (List Int)}(hl:ks.length=vs.length)(hk:KeysAre s b ks kz)(h2:2<=vs.length)(h64:vs.length<64)(nd:kz.Nodup)(hu:A.units+1<eL):
  wo prog w A ks vs (λp=>PermR vs.length p/\So (ux kz) p vs.length) s:=by
 intro E;have hz:=hk.len;obtain⟨fs,f1,f2,f3⟩:=hk.firsts;have go:∀{T:aC},(T==T)=true->(T !=gE "tuple")=true->(∀v∈fs,Looks (bH prog w) s.heap (typeOf v) T)->bA (bH prog w) A (keyKind' ks.toArray) (λκ s'=>s'=s/\∀E':aC->aI->Prop,bA (bH prog w) A (sortRuns'.run (SortSt.mk' κ (ks.toArray.zip vs.toArray) #[] 7 none)) (λr s''=>
  s''=s/\failedOf r.2=none/\∃p:Array Nat,(PermR vs.length p/\So (ux kz) p vs.length)/\p.size=vs.length/\(arrOf r.2).map (·.2)=List.toArray (p.toList.map λi=>vs.getD i cE)) E' s) E s:=λ{T} t1 t2 t3=>by
  refine kat_kind (T:=T) f1 (by lia) t3 t1 ?_;rw[t2];refine⟨rfl,λE'=>?_⟩;have o:=Xm nd;rw[hz,hl]at o;refine bU (kat_run (Q:=λst s''=>s''=s/\failedOf st=none/\∃p:Array Nat,(PermR vs.length p/\So (ux kz) p vs.length)/\p.size=vs.length/\(arrOf st).map (·.2)=List.toArray (p.toList.map λi=>vs.getD i cE))
   (G:=λp s'=>s'=s/\PermR vs.length p/\So (ux kz) p vs.length) hl h2 h64 (λp st s' g1 g2 g3 g4=>⟨g4.1,g3,p,g4.2,g1,kat_snds hl g2⟩) ?_) (λ_ _ x=>x) (λ_ _ x=>x)
  refine GoOk.wp (cmp:=ux kz) (n:=vs.length) (R:=λp=>PermR vs.length p/\So (ux kz) p vs.length) (λi j K hi hj q=>?_) (λp r=>⟨rfl,r⟩) (FM o h2);obtain⟨xs,as,r1,s1⟩:=hk.get (i:=i) (by lia);obtain⟨ys,bs,r2,s2⟩:=hk.get (i:=j) (by lia);exact JH r1 r2 s1 s2 hu q
 by_cases hb:b<2
 ·refine go (T:=.type "int") (by decide) (by decide) λv hv=>?_;have:=f3 v hv;unfold FV at this;rw[aG hb]at this;obtain⟨n,t,rfl⟩:=this;exact Looks.of_pure rfl
 ·refine go (T:=.type "str") (by decide) (by decide) λv hv=>?_;have:=f3 v hv;unfold FV at this;rw[aJ hb]at this;obtain⟨n,t,rfl⟩:=this;exact Looks.of_pure rfl
end
noncomputable def N3(h:Heap)(a:Addr)(vs:List aC):Heap:=((h.update a (gH λ_=>(#[]:Array aC))).push (dP "tuple" vs.toArray 0)).push (dP "list" #[] 0)
def W8{h:Heap}(e:h.get? b=some o)(ne:b≠a):(N3 h a vs).get? b=some o:=by
 unfold N3;refine aD _ (aD _ ?_);rw[fW _ _ _ _ ne];exact e
def OutOf(R:Array Nat->Prop)(vs out:List aC):Prop:=(vs.length<2/\out=vs)\/(2<=vs.length/\∃p:Array Nat,R p/\p.size=vs.length/\out=p.toList.map λi=>vs.getD i cE)
def OutOf.len{vs out:List aC}(h:OutOf R vs out):out.length=vs.length:=by
 rcases h with ⟨_,rfl⟩|⟨_,p,_,h1,rfl⟩
 ·rfl
 ·rw[aO,aL,h1]
section
variable{prog:bQ}{w:bZ}{A:cG}{E:aC->aI->Prop}{s:aI}
def Ot{vs:List aC}(ho:s.heap.get? a=some (dP "list" vs.toArray n))(hz:vs.length<=1000)(hR:2<=vs.length->wo prog w A vs vs R {s with heap:=N3 s.heap a vs})
  (h:∀out:List aC,OutOf R vs out->P (.done (.ret .none)) {s with heap:=sortedHeap s.heap a vs out.toArray}):bA (bH prog w) A (Builtin.«list.sort» ⟨[.ref a],[]⟩) P E s:=by
 have ha:a<s.heap.objs.size:=aT ho;have zl:vs.length<=aQ:=by rw[cD];lia
 obtain⟨e1,ho1⟩:∃e1,(s.heap.update a (gH λ_=>(#[]:Array aC))).get? a=some (dP "list" #[] e1):=⟨_,oS ho λ_=>#[]⟩;have ho6:(N3 s.heap a vs).get? a=some (dP "list" #[] e1):=aD _ (aD _ ho1);rw[list_sort_plain];refine aA (listItems_at ho rfl (aA (iI ho rfl ?_ (by simpa using zl) (bX _))));refine aA (nG ho1 rfl (aA (wpAny_newTuple (aA (lK (cM ?_) (bX _))) zl)));show bA (bH prog w) A _ P E {s with heap:=N3 s.heap a vs};dsimp only
 by_cases h2:vs.toArray.size<2
 ·have h2':vs.length<2:=by simpa using h2
  rw[aG h2,aG h2];refine aA (aB ?_);rw[StateT.run_pure];refine aA (aB ?_);dsimp only;have em:Array.map (λx:Keyed=>x.2) (vs.toArray.zip vs.toArray)=vs.toArray:=by
   apply Array.toList_inj.mp;rw[nX,Array.toList_zip];exact List.map_snd_zip (aH _)
  rw[show(arrOf (SortSt.mk' general' (vs.toArray.zip vs.toArray) #[] 7 none)).map (·.2)=vs.toArray from em];refine aA (nG ho6 rfl (aA (iI ho6 rfl ?_ (bX _) (cB (eQ (bC ..)) (by lia)))));simp only[bne_self_eq_false,Bool.false_eq_true,if_false];exact aB (h vs (.inl ⟨h2',rfl⟩))
 ·have h2':2<=vs.length:=by simpa using h2
  rw[aJ h2,aJ h2];refine aA (bU (hR h2' _) (λκ s' g=>?_) λ_ _ x=>x);obtain⟨rfl,g⟩:=g;refine aA (bU (g _) (λr s' g=>?_) λ_ _ x=>x);obtain⟨rfl,hf,p,hp,hs,ho'⟩:=g;obtain⟨⟨⟩,st⟩:=r;dsimp only at hf ho'⊢;rw[ho',hf];have zo:(p.toList.map λi=>vs.getD i cE).length<=aQ:=by rw[aO,aL,hs];exact zl
  refine aA (nG ho6 rfl (aA (iI ho6 rfl ?_ (bX _) (cB (eQ (bC ..)) (by lia)))));simp only[bne_self_eq_false,Bool.false_eq_true,if_false];exact aB (h _ (.inr ⟨h2',p,hp,hs,rfl⟩))
end
def Np:D->Option Int
 |.int i=>some i
 |_=>none
def ti:List D->Option (List Int)
 |[]=>some []
 |d::ds=>match Np d,ti ds with
  |some i,some r=>some (i::r)
  |_,_=>none
def Nu:D->Option (List Int)
 |.tup ds=>match ti ds with
  |some (i::r)=>some (i::r)
  |_=>none
 |_=>none
def md:List D->Option (List (List Int))
 |[]=>some []
 |d::ds=>match Nu d,md ds with
  |some k,some r=>some (k::r)
  |_,_=>none
theorem Cj:∀{ds:List D}{ns:List Int},ti ds=some ns->ds=ns.map D.int
 |[],ns,h=>by cases h;rfl
 |d::ds,ns,h=>by
  unfold ti at h;cases e1:Np d with
  |none=>rw[e1]at h;cases h
  |some i=>
   cases e2:ti ds with
   |none=>rw[e1,e2]at h;cases h
   |some r=>
    rw[e1,e2]at h;cases h;cases d<;>first|(cases e1;rw[Cj e2];rfl)|cases e1
def BE{k:List Int}(h:Nu d=some k):k≠[]/\d=.tup (k.map D.int):=by
 unfold Nu at h;cases d with
 |tup ds=>
  dsimp only at h;cases e:ti ds with
  |none=>rw[e]at h;cases h
  |some ns=>
   rw[e]at h;cases ns with
   |nil=>cases h
   |cons i r=>cases h;exact⟨by simp,by rw[Cj e]⟩
 |_=>cases h
def nq(h:md (d::ds)=some kz):∃k r,Nu d=some k/\md ds=some r/\kz=k::r:=by
 unfold md at h;cases e1:Nu d with
 |none=>rw[e1]at h;cases h
 |some k=>
  cases e2:md ds with
  |none=>rw[e1,e2]at h;cases h
  |some r=>rw[e1,e2]at h;cases h;exact⟨k,r,rfl,rfl,rfl⟩
theorem zq:∀ns:List Int,d8 (ns.map D.int)=some (ns.map bY)
 |[]=>rfl
 |i::r=>by
  rw[aV,d8,zq r];rfl
section
variable{X:Cx}{pins:List (Addr×Obj)}{Z:St}{G H:Hp}{s:aI}
theorem Kt(I:Inv X pins Z H s)(sg:Same G H):∀{ds:List D}{kz:List (List Int)}{vs:List V}{us:List aC},md ds=some kz->DenL (kx X) G ds vs->Vals vs us->KeysAre s 0 us kz
 |[],kz,vs,us,h,dl,r=>by
  cases h;cases (show vs=[]from dl);cases r;trivial
 |d::ds,kz,vs,us,h,dl,r=>by
  obtain⟨k,r',h1,h2,rfl⟩:=nq h;obtain⟨v,vr,rfl,dv,dr⟩:=dl;obtain⟨hn,rfl⟩:=BE h1;cases r with
  |cons rv rr=>
   refine⟨?_,Kt I sg h2 dr rr⟩;obtain⟨as,ra⟩:=x8 I sg dv rv (show fk (.tup (k.map D.int))=some (.tuple (k.map bY)) by rw[fk,zq]);exact⟨_,as,ra,hn,rfl⟩
end
noncomputable def Nn(x:List Int×D):List (List Int×D)->List (List Int×D)
 |[]=>[x]
 |y::r=>if x.1<y.1 then x::y::r else y::Nn x r
def lu(l:List (List Int×D)):List (List Int×D):=l.foldr Nn []
theorem y7(x:List Int×D):∀l,(Nn x l).Perm (x::l)
 |[]=>.refl _
 |y::r=>by
  unfold Nn;split
  ·exact .refl _
  ·exact((y7 x r).cons y).trans (kQ x y r)
theorem j8:∀l,(lu l).Perm l
 |[]=>.refl _
 |x::r=>(y7 x _).trans ((j8 r).cons x)
theorem Qa:∀{l:List (List Int×D)},l.Pairwise (λa b=>a.1<b.1)->(∀y∈l,y.1≠x.1)->(Nn x l).Pairwise (λa b=>a.1<b.1)
 |[],_,_=>by unfold Nn;exact List.pairwise_singleton _ _
 |y::r,h,hn=>by
  unfold Nn;obtain⟨h1,h2⟩:=List.pairwise_cons.mp h;split
  ·rename_i c;refine List.pairwise_cons.mpr ⟨λz hz=>?_,h⟩;rcases List.mem_cons.mp hz with rfl|hz
   ·exact c
   ·exact lM c (h1 z hz)
  ·rename_i c;have lt:y.1<x.1:=Std.lt_of_le_of_ne c (hn y (.head _));refine List.pairwise_cons.mpr ⟨λz hz=>?_,Qa h2 λz hz=>hn z (.tail _ hz)⟩;rcases List.mem_cons.mp ((y7 x r).mem_iff.mp hz)with rfl|hz
   ·exact lt
   ·exact h1 z hz
theorem yb:∀{l:List (List Int×D)},(l.map (·.1)).Nodup->(lu l).Pairwise (λa b=>a.1<b.1)
 |[],_=>iQ
 |x::r,h=>by
  obtain⟨h1,h2⟩:=List.nodup_cons.mp (show(x.1::r.map (·.1)).Nodup from h);refine Qa (yb h2) λy hy e=>h1 ?_;rw[<-e];exact List.mem_map_of_mem ((j8 r).mem_iff.mp hy)
def F3{kz:List (List Int)}{ds:List D}{p:Array Nat}(hl:kz.length=ds.length)(nd:kz.Nodup)(hp:PermR ds.length p)(hs:So (ux kz) p ds.length):p.toList.map (λi=>ds.getD i D.non)=(lu (kz.zip ds)).map (·.2):=by
 have e:p.toList.map (λi=>(kz.getD i [],ds.getD i D.non))=lu (kz.zip ds):=by
  have pr:(p.toList.map λi=>(kz.getD i [],ds.getD i D.non)).Perm (kz.zip ds):=by
   have:(aW ds.length).map (λi=>(kz.getD i [],ds.getD i D.non))=kz.zip ds:=by
    refine List.ext_getElem (by simp[hl]) λi h1 h2=>?_;have:i<ds.length:=by simpa using h1
    have:i<kz.length:=by lia
    simp[*]
   rw[<-this];exact List.Perm.map _ hp
  have nz:((kz.zip ds).map (·.1)).Nodup:=by
   rw[oA (by lia)];exact nd
  refine List.Perm.eq_of_pairwise (le:=λa b:List Int×D=>a.1<b.1) (λa b _ _ h1 h2=>absurd (lM h1 h2) (List.lt_irrefl _)) ?_ (yb nz) (pr.trans (j8 _).symm);rw[nH,List.pairwise_iff_getElem];intro i j hi hj hij;have hz:=hp.size;have hj':j<ds.length:=by rw[<-hz];simpa using hj
  have:=hs i j hij hj';rw[Jh (by lia),Jh (by lia)]at this;simpa[ux]using this
 rw[<-e,dA];rfl
end Pu
end
section
namespace PySem
section
variable{prog:bQ}{w:bZ}{K:Type}[DecidableEq K]{knd:HeapKind prog w K}{A:cG}{E:aC->aI->Prop}{s:aI}
def qu(hu:knd.room A)(hkey:knd.is s.heap k a)(hm:s.heap.DictOfH knd d xs)
  (h1:∀v,(nT xs k).map (·.2)=some v->Q v {s with toks:=s.toks+knd.draws k})
  (h2:nT xs k=none->∀h',h'.DictOfH knd d (storedH xs k a dflt)->cK d s.heap h'->Q dflt {s with heap:=h',toks:=s.toks+knd.draws k})
  (hsz:xs.length<=aQ):bA (bH prog w) A (dictSetDefault d (.ref a) dflt) Q E s:=by
 obtain⟨o,es,ep,ho,hc,hd,he,his,hn⟩:=hm;unfold dictSetDefault
 try with_reducible refine cM ?_
 refine aA (knd.pyHash hu hkey ?_);refine aA (wpAny_dictFind_heap (s:={s with toks:=s.toks+knd.draws k}) hu hkey ho hd he his hn ?_ ?_)
 ·intro hno;have hnot:k∉xs.map (·.1):=not_mem_keys_of_get hno;refine aA (jS (aA (wpAny_updateDictKeys (hz:=by have e:=size_of_entries he;lia) (s:={s with toks:=s.toks+knd.draws k}) ho hd (aB (h2 (kU hno) _ ⟨_,_,ep+1,cN _ ho (Obj.isFreed_of_dict (Obj.data_mapDictKeys hd _)),
   hc.mapDictKeys _,Obj.data_mapDictKeys hd _,?_,?_,?_⟩ (cH ..))))))
  ·rw[storedH_new (kU hno)];simp[he,entryOfKey]
  ·rw[storedH_new (kU hno)];intro x hx;rcases List.mem_append.mp hx with hx|hx
   ·exact knd.keeps (his x hx) ho hd (cH ..)
   ·simp only[jW]at hx;subst hx;exact knd.keeps hkey ho hd (cH ..)
  ·rw[storedH_new (kU hno)];rw[dD,List.nodup_append];refine⟨hn,by simp,?_⟩;intro x hx y hy;simp only[aV,kL,jW]at hy;subst hy;exact λe=>hnot (e▸hx)
 ·intro j p hj;have hp:(nT xs k).map (·.2)=some p.2:=by rw[atKey_of_get hn hj];rfl
  refine aA (wpAny_dictEntries (s:={s with toks:=s.toks+knd.draws k}) ho hd ?_);rw[entry_at he j,hj];exact aA (jS (aB (h1 _ hp)))
def t4(knd:HeapKind prog w K)(d a:Addr)(hd:(d==gF)=false)(dflt:aC):
  MeetsIn prog w (Builtin.«dict.setdefault» ⟨[.ref d,.ref a,dflt],[]⟩) (λA R s=>knd.room A.in1/\∃k xs,knd.is s.heap k a/\s.heap.DictOfH knd d xs/\xs.length<=aQ/\
   (∀v,(nT xs k).map (·.2)=some v->R (.ok (.ret v)) {s with toks:=s.toks+knd.draws k})/\
   (nT xs k=none->∀h',h'.DictOfH knd d (storedH xs k a dflt)->cK d s.heap h'->R (.ok (.ret dflt)) {s with heap:=h',toks:=s.toks+knd.draws k})):=
 .of_wp λA R s ⟨hu,k,xs,hkey,hm,hz,h1,h2⟩=>by
  unfold Builtin.«dict.setdefault»;refine aA ?_;unfold Builtin.Dict.keyAndDefault;refine aA (wpAny_notOrdered_dict hm.typeIs ?_);show bA _ _ (pure (d,cQ a,some dflt)) _ _ s;refine aB ?_;show bA _ _ (if(d==gF)=true then _ else(dictSetDefault d (.ref a) dflt>>=_)) _ _ s;rw[aJ (by rw[hd];exact Bool.false_ne_true)];exact aA (qu hu hkey hm (λv hv=>aB ⟨v,rfl,h1 v hv⟩) (λhn h' hm' hs'=>aB ⟨dflt,rfl,h2 hn h' hm' hs'⟩) hz)
end
end PySem
namespace Pu
open PySem PySem.Spec PyProof.Rows L2
def vf:List D->Option (List rn)
 |[]=>some []
 |d::r=>match nj d,vf r with
  |some k,some ks=>some (k::ks)
  |_,_=>none
theorem Ks:∀ks:List rn,vf (ks.map kD)=some ks
 |[]=>rfl
 |k::ks=>by
  show(match nj (kD k),vf (ks.map kD)with
   |some k,some ks=>some (k::ks)
   |_,_=>none)=_
  rw[Kp,Ks ks]
def S8:D->Option NK
 |.tup ds=>(vf ds).map .inr
 |d=>(nj d).map .inl
def Hv:List D->Option bg
 |[]=>some []
 |d::r=>match S8 d,Hv r with
  |some k,some ks=>some (k::ks)
  |_,_=>none
def d7:D->Option bg
 |.tup ds=>Hv ds
 |_=>none
def Xd:∀k:NK,S8 (KR k)=some k
 |.inl (.inl _)=>rfl
 |.inl (.inr _)=>rfl
 |.inr ks=>by show(vf (ks.map kD)).map lG=_;rw[Ks];rfl
theorem Qo:∀ks:bg,Hv (ks.map KR)=some ks
 |[]=>rfl
 |k::ks=>by
  show(match S8 (KR k),Hv (ks.map KR)with
   |some k,some ks=>some (k::ks)
   |_,_=>none)=_
  rw[Xd,Qo ks]
def uo(ks:bg):d7 (kT ks)=some ks:=Qo ks
theorem xc{K:KA}{G:Hp}:∀{ds:List D}{vs:List V}{ks:List rn},DenL K G ds vs->vf ds=some ks->vs=ks.map kV
 |[],_,_,h,e=>by cases e;exact h
 |d::r,_,ks,⟨v,t,h1,h2,h3⟩,e=>by
  unfold vf at e;cases e1:nj d with
  |none=>rw[e1]at e;cases e
  |some k=>
   cases e2:vf r with
   |none=>rw[e1,e2]at e;cases e
   |some ks'=>
    rw[e1,e2]at e;cases e;rw[h1,xc h3 e2,A5 (H:=G) (.inl h2) e1];rfl
def ID{K:KA}{G:Hp}{d:D}{v:V}{k:NK}(h:Den K G d v)(e:S8 d=some k):nkAt G k v:=by
 have one:∀{d:D},Den K G d v->(nj d).map mB=some k->nkAt G k v:=λ{d} h e=>by
  cases e1:nj d with
  |none=>rw[e1]at e;cases e
  |some j=>rw[e1]at e;cases e;exact A5 (H:=G) (.inl h) e1
 cases d with
 |tup ds=>
  obtain⟨a,vs,rfl,h2,h3⟩:=h;have e:(vf ds).map lG=some k:=e;cases e1:vf ds with
  |none=>rw[e1]at e;cases e
  |some ks=>rw[e1]at e;cases e;exact⟨a,rfl,by rw[<-xc h3 e1];exact h2⟩
 |_=>exact one h e
theorem B2{K:KA}{G:Hp}:∀{ds:List D}{vs:List V}{ks:bg},DenL K G ds vs->Hv ds=some ks->NkL G ks vs
 |[],_,_,h,e=>by cases e;exact h
 |d::r,_,ks,⟨v,t,h1,h2,h3⟩,e=>by
  unfold Hv at e;cases e1:S8 d with
  |none=>rw[e1]at e;cases e
  |some k=>
   cases e2:Hv r with
   |none=>rw[e1,e2]at e;cases e
   |some ks'=>
    rw[e1,e2]at e;cases e;exact⟨v,t,h1,ID h2 e1,B2 h3 e2⟩
noncomputable def fm:List (D×D)->bg->Option D
 |[],_=>none
 |(k,d)::r,j=>if d7 k=some j then some d else fm r j
def Cf(kvs:List (D×D))(j:bg):Bool:=kvs.any λp=>decide (d7 p.1=some j)
def Lm(kvs:List (D×D))(j:bg)(v:D):List (D×D):=if Cf kvs j=true then kvs.map (λp=>if d7 p.1=some j then(p.1,v)else p)else kvs++[(kT j,v)]
section
variable{K:KA}{G:Hp}
theorem DenT.length:∀{kvs:List (D×D)}{es:List (bg×V)},DenT K G kvs es->kvs.length=es.length
 |[],_,h=>by rw[show _=[]from h];rfl
 |(_,_)::_,_,⟨k,v,r,h1,_,_,h3⟩=>by rw[h1,aE,aE,DenT.length h3]
theorem DenT.look:∀{kvs:List (D×D)}{es:List (bg×V)},DenT K G kvs es->∀j,(∀d,fm kvs j=some d->∃v,l9 es j=some v/\Den K G d v)/\(fm kvs j=none->l9 es j=none)
 |[],es,h,j=>by
  rw[show es=[]from h];exact⟨λd e=>(by cases e),λ_=>Mm⟩
 |(k,d)::r,es,h,j=>by
  obtain⟨k',v,t,rfl,rfl,dv,dt⟩:=h;obtain⟨i1,i2⟩:=DenT.look dt j;unfold fm;rw[uo k']
  by_cases e:k'=j
  ·subst e;rw[aG rfl];exact⟨λd' z=>⟨v,ug rfl,by cases z;exact dv⟩,λz=>by cases z⟩
  ·rw[aJ (λz=>e (bS z))];refine⟨λd' z=>?_,λz=>?_⟩
   ·obtain⟨u,q1,q2⟩:=i1 d' z;exact⟨u,(n8 e).trans q1,q2⟩
   ·exact(n8 e).trans (i2 z)
theorem DenT.has:∀{kvs:List (D×D)}{es:List (bg×V)},DenT K G kvs es->∀j,Cf kvs j=es.any λkv=>decide (kv.1=j)
 |[],es,h,j=>by rw[show es=[]from h];rfl
 |(k,d')::r,es,h,j=>by
  obtain⟨k',u,t,rfl,rfl,du,dt⟩:=h;have ih:=DenT.has dt j;unfold Cf at ih⊢;rw[jL,jL,ih]
  congr 1
  rw[uo k']
  by_cases e:k'=j
  ·simp[e]
  ·rw[decide_eq_false e,decide_eq_false λz=>e (bS z)]
theorem DenT.repl(dv:Den K G d v):∀{kvs:List (D×D)}{es:List (bg×V)},DenT K G kvs es->∀j,DenT K G (kvs.map λp=>if d7 p.1=some j then(p.1,d)else p) (es.map λkv=>if kv.1=j then(kv.1,v)else kv)
 |[],es,h,j=>by rw[show es=[]from h];rfl
 |(k,d')::r,es,h,j=>by
  obtain⟨k',u,t,rfl,rfl,du,dt⟩:=h;have ih:=DenT.repl dv dt j;rw[aV,aV];dsimp only;rw[uo k']
  by_cases e:k'=j
  ·rw[aG e,aG (by rw[e])];exact⟨k',v,_,rfl,rfl,dv,ih⟩
  ·rw[aJ e,aJ λz=>e (bS z)];exact⟨k',u,_,rfl,rfl,du,ih⟩
theorem DenT.snoc(dv:Den K G d v):∀{kvs:List (D×D)}{es:List (bg×V)},DenT K G kvs es->∀j,DenT K G (kvs++[(kT j,d)]) (es++[(j,v)])
 |[],es,h,j=>by rw[show es=[]from h];exact⟨j,v,[],rfl,rfl,dv,rfl⟩
 |(k,d')::r,es,h,j=>by
  obtain⟨k',u,t,rfl,rfl,du,dt⟩:=h;exact⟨k',u,_,rfl,rfl,du,DenT.snoc dv dt j⟩
def DenT.put(dv:Den K G d v)(h:DenT K G kvs es)(j:bg):DenT K G (Lm kvs j d) (Ll es j v):=by
 unfold Lm Ll;rw[h.has j]
 by_cases e:(es.any λkv=>decide (kv.1=j))=true
 ·rw[aG e,aG e];exact h.repl dv j
 ·rw[aJ e,aJ e];exact h.snoc dv j
end
section
variable{X:Cx}{G0 B:Hp}{E:EK}{e a b:Expr}{es:List Expr}{g h k:En->Res}{pos p:Pos}
def Ig(i:Nat):En->Out:=λU=>.nx (U.set i (.od true []))
def EnvR.setDT{K:KA}{G H:Hp}{Z:St}{U:En}{i:Nat}{a:Addr}(R:EnvR K B G H Z U)(hn:H a=none):EnvR K B G (upd H a (.dT [])) (Z.set i (some (.ref a))) (U.set i (.od true [])):=by
 have e:Ext G H G (upd H a (.dT [])):=Ext.own R.gh _ hn;have R':=R.ext e;have gn:G a=none:=gm R.gh hn;have bn:B a=none:=gm R.bh hn;have oth:∀(j:Nat) s,U[j]?=some s->s.own=true->Z[j]?=some (some (V.ref a))->False:=λj s q1 q2 q3=>by
  obtain⟨o,z1,z2⟩:=R.sl j s q1;rw[q3]at z1;cases z1;obtain⟨a',z,u,z3,_⟩:=z2.ref q2;cases z;rw[hn]at z3;cases z3
 have at_i:∀{s:Sl},(U.set i (.od true []))[i]?=some s->s=.od true []/\i<U.length:=λq=>by
  have hl:i<U.length:=by
   have:=(List.getElem?_eq_some_iff.mp q).1;rwa [cV]at this
  rw[bK hl]at q;cases q;exact⟨rfl,hl⟩
 refine⟨R'.bh,R'.gh,by rw[cV,cV];exact R.len,λj s q=>?_,λj s b q1 q2 q3=>?_,λj k s t b q1 q2 q3 q4 q5 q6=>?_,R.gb⟩
 ·by_cases z:i=j
  ·subst z;obtain⟨rfl,hl⟩:=at_i q;exact⟨some (.ref a),bK (by rw[R.len];exact hl),a,[],rfl,ar,rfl⟩
  ·rw[bN z]at q⊢;exact R'.sl j s q
 ·by_cases z:i=j
  ·subst z;obtain⟨rfl,hl⟩:=at_i q1;rw[bK (by rw[R.len];exact hl)]at q3;cases q3;exact⟨gn,bn⟩
  ·rw[bN z]at q1 q3;exact R'.own j s b q1 q2 q3
 ·by_cases zj:i=j
  ·subst zj;obtain⟨rfl,hl⟩:=at_i q1;rw[bK (by rw[R.len];exact hl)]at q5;cases q5
   by_cases zk:i=k
   ·exact zk
   ·rw[bN zk]at q2 q6;exact(oth k t q2 q4 q6).elim
  ·rw[bN zj]at q1 q5
   by_cases zk:i=k
   ·subst zk;obtain⟨rfl,hl⟩:=at_i q2;rw[bK (by rw[R.len];exact hl)]at q6;cases q6;exact(oth j s q1 q3 q5).elim
   ·rw[bN zk]at q2 q6;exact R'.dis j k s t b q1 q2 q3 q4 q5 q6
def FX(hs:PS X (.Assign [.Name x pos'] (.Dict [] [] p) pos) (Ua Zm (vb i))):u3 X G0 B E (.Assign [.Name x pos'] (.Dict [] [] p) pos) (Ig i):=
 PS.imp hs λD Z H ⟨G,U,R,e,q⟩=>λa ha=>q _ G _ (Same.refl G) (R.setDT ha) (e.trans (Ext.own R.gh _ ha))
def EnvR.odAtT{K:KA}{G H:Hp}{Z:St}{U:En}{i:Nat}{kvs:List (D×D)}(R:EnvR K B G H Z U)(h:U[i]?=some (.od true kvs)):∃a es,Z[i]?=some (some (V.ref a))/\H a=some (.dT es)/\DenT K G kvs es/\G a=none/\B a=none:=by
 obtain⟨o,q1,a,vs,q2,q3,q4⟩:=R.sl i _ h;subst q2;obtain⟨g,b⟩:=R.own i _ a h rfl q1;exact⟨a,vs,q1,q3,q4,g,b⟩
def EnvR.wrDT{K:KA}{G H:Hp}{Z:St}{U:En}{i:Nat}{kvs kvs':List (D×D)}{a:Addr}{es es':List (bg×V)}(R:EnvR K B G H Z U)(hi:U[i]?=some (.od true kvs))(hs:Z[i]?=some (some (V.ref a)))(ha:H a=some (.dT es))(dl:DenT K G kvs' es'):
  EnvR K B G (upd H a (.dT es')) Z (U.set i (.od true kvs')):=by
 obtain⟨gn,bn⟩:=R.own i _ a hi rfl hs;have hl:i<U.length:=(List.getElem?_eq_some_iff.mp hi).1;have sb:∀{F:Hp},F a=none->Same F H->Same F (upd H a (.dT es')):=λfn s b u q=>by
  rw[ak (aq q fn)];exact s b u q
 have ownEq:∀{j:Nat}{s:Sl},(U.set i (.od true kvs'))[j]?=some s->s.own=true->∃s',U[j]?=some s'/\s'.own=true:=λ{j s} q o=>by
  by_cases z:i=j
  ·subst z;exact⟨_,hi,rfl⟩
  ·rw[bN z]at q;exact⟨s,q,o⟩
 refine⟨sb bn R.bh,sb gn R.gh,by rw[cV];exact R.len,λj s q=>?_,λj s b q1 q2 q3=>?_,λj k s t b q1 q2 q3 q4 q5 q6=>?_,R.gb⟩
 ·by_cases z:i=j
  ·subst z;rw[bK hl]at q;cases q;exact⟨_,hs,a,es',rfl,ar,dl⟩
  ·rw[bN z]at q;obtain⟨o,z1,z2⟩:=R.sl j s q;refine⟨o,z1,?_⟩;cases s with
   |no=>trivial
   |pu d=>exact z2
   |bo d=>exact z2
   |ow fs=>
    obtain⟨b,us,y1,y2,y3⟩:=z2;have nb:b≠a:=by
     rintro rfl
     rw[ha]at y2;cases y2
    exact⟨b,us,y1,by rw[ak nb];exact y2,y3⟩
   |od t fs=>
    cases t with
    |true=>
     obtain⟨b,us,y1,y2,y3⟩:=z2;have nb:b≠a:=by
      rintro rfl
      subst y1;exact z (R.dis i j _ _ b hi q rfl rfl hs z1)
     exact⟨b,us,y1,by rw[ak nb];exact y2,y3⟩
    |false=>
     obtain⟨b,us,y1,y2,y3⟩:=z2;have nb:b≠a:=by
      rintro rfl
      rw[ha]at y2;cases y2
     exact⟨b,us,y1,by rw[ak nb];exact y2,y3⟩
 ·obtain⟨s',z1,z2⟩:=ownEq q1 q2;exact R.own j s' b z1 z2 q3
 ·obtain⟨s',z1,z2⟩:=ownEq q1 q3;obtain⟨t',y1,y2⟩:=ownEq q2 q4;exact R.dis j k s' t' b z1 y1 z2 y2 q5 q6
def Sd{pins:List (Addr×Obj)}{Z:St}{H:Hp}{s:aI}{a b:Addr}{kvs:List (bg×V)}{k:bg}{v:V}{r:aC}{A:cG}{E:aC->aI->Prop}{Q:aC->aI->Prop}(hu:A.units+5<eL)(I:Inv X pins Z H s)(e:H a=some (.dT kvs))(eb:TkAt H k b)(hl:kvs.length<aQ)(rv:RelV v r)
  (h1:∀v' w s',l9 kvs k=some v'->RelV v' w->Inv X pins Z H s'->Q w s')(h2:∀s',l9 kvs k=none->Inv X pins Z (upd H a (.dT (Ll kvs k v))) s'->Q r s'):
  bA (bH X.prog X.w) A (call (.builtin "dict.setdefault") [.ref a,.ref b,r]) Q E s:=by
 obtain⟨z,hd,xs,rel,dd⟩:=PL I.hok e;have hz:xs.length<=aQ:=by rw[<-Paired.length rel];exact z
 have hval:=rel.val k;refine call_meetsIn lY dd.typeIs PySem.F.entry_dict_setdefault (PySem.F.args_dict_setdefault_3 _ _ _) (t4 (au X.prog X.w) a b hd r)
  ⟨ic hu,k,xs,y9 I.hok eb,dd,hz,λw hw=>?_,λhn h' dd' hs=>?_⟩
 ·rw[hw]at hval;cases ev:l9 kvs k with
  |none=>rw[ev]at hval;cases hval
  |some v'=>rw[ev]at hval;exact h1 v' w _ ev hval (I.tok _)
 ·rw[hn]at hval;have ev:l9 kvs k=none:=by
   cases ev:l9 kvs k with
   |none=>rfl
   |some v'=>rw[ev]at hval;cases hval
  refine h2 _ ev ?_;have hl':(Ll kvs k v).length<=aQ:=by have:=Ky kvs k v;lia
  obtain⟨q,es,ep,hq,g2,g3,g4,_,g5⟩:=dd';refine AB I (by rw[e];exact lD) hs ⟨q,hq⟩ ⟨hl',hd,_,(rel.put k eb rv).keeps λc ys ec=>?_,q,es,ep,hq,g2,g3,g4,g5⟩;rw[ak (QP ec e (λz=>nomatch z))];exact ec
def ju(i:Nat)(gk gv:En->Res):En->ResE:=λU=>match U[i]? with
 | some (.od true kvs) => (match gk U with
  | .ok dk => (match gv U with
   | .ok dv => (match d7 dk with
    | some j => if kvs.length < aQ then (match fm kvs j with
     |some d=>.ok d U
     |none=>.ok dv (U.set i (.od true (Lm kvs j dv))))else .st
    |none=>.st)
   |.er c=>.er c
   |.st=>.st)
  |.er c=>.er c
  |.st=>.st)
 |_=>.st
def Arg.keys{K:KA}{G H:Hp}{d:D}{v:V}{ks:bg}(s:Same G H)(h:Arg K G H d v)(e:d7 d=some ks):∃b,v=.ref b/\TkAt H ks b:=by
 cases d with
 |tup ds=>
  obtain⟨b,vs,h1,h2,h3⟩:=h.tup0 s;exact⟨b,h1,vs,h2,(B2 h3 e).mono λ_ _ q=>s _ _ q⟩
 |_=>cases e
def Tp{K:KA}{G:Hp}{kvs:List (D×D)}{es:List (bg×V)}(dl:DenT K G kvs es){j:bg}(h:l9 es j=none):fm kvs j=none:=by
 cases e:fm kvs j with
 |none=>rfl
 |some d=>
  obtain⟨v,q,_⟩:=(dl.look j).1 d e;rw[h]at q;cases q
def Na{i:Nat}{x:Str}{ke ve:Expr}{ap cp:Pos}(hu:X.A.units+5<eL)(hv:PE X (.Name x p) (Iq i))(hk:lx X B E ke g)(hval:gq X B E ve h)(hn:ja ke=true)(hn2:ja ve=true)(hl:(ap.endLine==cp.line)=true):
  AU X G0 B E (.Call (.Attribute (.Name x p) "setdefault" ap) [ke,ve] [] cp) (ju i g h):=by
 intro pins s Z H Q I ⟨G,U,R,ex,q⟩;unfold ju at q;cases ed:U[i]? with
 |none=>rw[ed]at q;exact q.elim
 |some sl=>
  rw[ed]at q;cases sl with
  |od t kvs=>
   cases t with
   |false=>exact q.elim
   |true=>
    dsimp only at q;obtain⟨l,es,q1,q2,q3,q4,q5⟩:=R.odAtT ed;have few:((eZ cp (bE [ke,ve] X.env)).all (λx=> !x.1) && (nS cp (kE [] X.env)).all (λx=>x.1.isSome)
     && decide (([ke,ve]:List Expr).length+([]:List iA).length+(if([]:List iA).isEmpty then 0 else 1)<30))=true:=by
     rw[Dz (by rw[cS,cS,hn,hn2];rfl)];rfl
    refine wpAny_Call_method rfl few hl PySem.F.plainAttrs_dict lY PySem.F.type_dict_setdefault (i7 (hv pins s Z H (λv H1=>v=.ref l/\H1=H) I ⟨_,q1,rfl,rfl⟩) λu s1 ⟨v,H1,I1,r1,e1,e2⟩=>?_);subst e1 e2;cases r1;obtain⟨t1,t2,_⟩:=JP I1 (.inr ⟨es,.inl q2⟩);refine⟨t1,t2,?_⟩;rw[Zd hn hn2];have qk:ResP (E) G H1 (g U) λdk=>ResP E G H1 (h U) λdv=>∃j,d7 dk=some j/\kvs.length<aQ/\Jb (kx X) G0 B E G Z (match fm kvs j with
     |some d=>.ok d U
     |none=>.ok dv (U.set i (.od true (Lm kvs j dv)))) λd G' H' _=>∀v,Den (kx X) G' d v->Q v H':=by
     cases eg:g U with
     |er c=>rw[eg]at q;exact λG' H' e=>q G' H' (ex.trans e)
     |st=>rw[eg]at q;exact q
     |ok dk=>
      rw[eg]at q;dsimp only at q;show ResP E G H1 (h U) _;cases eh:h U with
      |er c=>rw[eh]at q;exact λG' H' e=>q G' H' (ex.trans e)
      |st=>rw[eh]at q;exact q
      |ok dv=>
       rw[eh]at q;dsimp only at q;cases ej:d7 dk with
       |none=>rw[ej]at q;exact q.elim
       |some j=>
        rw[ej]at q;dsimp only at q
        by_cases hl:kvs.length<aQ
        ·rw[aG hl]at q;exact⟨j,rfl,hl,q⟩
        ·rw[aJ hl]at q;exact q.elim
    refine kK rfl (lQ (mI (i7 (hk pins s1 Z H1 (λy H2=>∃G2 dk,Ext G H1 G2 H2/\Arg (kx X) G2 H2 dk y/\ResP E G H1 (h U) λdv=>∃j,d7 dk=some j/\kvs.length<aQ/\Jb (kx X) G0 B E G Z (match fm kvs j with
     |some d=>.ok d U
     |none=>.ok dv (U.set i (.od true (Lm kvs j dv)))) λd G' H' _=>∀v,Den (kx X) G' d v->Q v H') I1 ⟨G,U,R,qk.mono λdk _ qk y G2 H2 e2 ay=>⟨G2,dk,e2,ay,qk⟩⟩) λyv s2 ⟨y,H2,I2,ry,G2,dk,e2,ay,qv⟩=>?_)))
    refine mI (i7 (hval pins s2 Z H2 (λz H3=>∃G3 dv j,Ext G2 H2 G3 H3/\Den (kx X) G3 dv z/\d7 dk=some j/\kvs.length<aQ/\Jb (kx X) G0 B E G Z (match fm kvs j with
     |some d=>.ok d U
     |none=>.ok dv (U.set i (.od true (Lm kvs j dv)))) λd G' H' _=>∀v,Den (kx X) G' d v->Q v H') I2 ⟨G2,U,R.ext e2,(qv.ext e2).mono λdv _ ⟨j,ej,hl,q⟩ z G3 H3 e3 dz=>⟨G3,dv,j,e3,dz,ej,hl,q⟩⟩) λzv s3 ⟨z,H3,I3,rz,G3,dv,j,e3,dz,ej,hsz,q⟩=>Calls.spliced_nil ?_)
    have e23:=e2.trans e3;have h3:=e23.hh _ _ q2;have g3:=e23.fr _ _ q2 q4 rfl;have dl3:=q3.mono e23.gg;have R3:=R.ext e23;obtain⟨b,rfl,hb⟩:=Arg.keys e2.gh ay ej;cases (show yv=cQ b from ry);refine Sd hu I3 h3 (hb.mono λ_ _ q=>e3.hh _ _ q) (by rw[<-dl3.length];exact hsz) rz (λv' w s' ev rw' I'=>?_) λs' ev I'=>?_
    ·cases el:fm kvs j with
     |none=>rw[(dl3.look j).2 el]at ev;cases ev
     |some d=>
      rw[el]at q;obtain⟨v2,z1,z2⟩:=(dl3.look j).1 d el;rw[z1]at ev;cases ev;exact⟨v',H3,I',rw',q G3 H3 e23.gg R3 (ex.trans e23) v' z2⟩
    ·have el:=Tp dl3 ev;rw[el]at q;exact⟨z,_,I',rz,q G3 _ e23.gg (EnvR.wrDT R3 ed q1 h3 (dl3.put dz j)) (Ext.wr (ex.trans e23) g3 q5) z dz⟩
  |no=>exact q.elim
  |pu _=>exact q.elim
  |bo _=>exact q.elim
  |ow _=>exact q.elim
end
noncomputable def Zr:Expr->Bool
 |.Call (.Name x _) _ _ _=>decide (x≠"len") && decide (x≠"int") && decide (x≠"str")
 |.Tuple _ _ _=>true
 |_=>false
noncomputable def O1:Nat->Expr->List Str
 |0,_=>[]
 |n+1,e=>match e with
  |.Call (.Attribute (.Name x _) m _) (k::r) _ _=>(if(m="setdefault"||m="get") && Zr k then[x]else[])++(r.flatMap (O1 n))
  |.Call (.Attribute o _ _) _ _ _=>O1 n o
  |.Compare l _ rs _=>O1 n l++rs.flatMap (O1 n)
  |.BoolOp _ es _=>es.flatMap (O1 n)
  |.UnaryOp _ e _=>O1 n e
  |.BinOp l _ r _=>O1 n l++O1 n r
  |_=>[]
def O3:Nat->List Stmt->List Str
 |0,_=>[]
 |n+1,ss=>ss.flatMap λs=>match s with
  |.For _ it b o _=>O1 n it++O3 n b++O3 n o
  |.While c b o _=>O1 n c++O3 n b++O3 n o
  |.If c b o _=>O1 n c++O3 n b++O3 n o
  |.Assign [.Subscript (.Name x _) k _] v _=>(if Zr k then[x]else[])++O1 n v
  |.Assign _ v _=>O1 n v
  |.Expr e _=>O1 n e
  |.Return (some e) _=>O1 n e
  |_=>[]
end Pu
end
section
namespace Pu
open PySem PySem.Spec PyProof.Rows L2
noncomputable def br:D->D->Option D
 |.lst xs,.int i=>atI xs i
 |.tup xs,.int i=>atI xs i
 | .str z, .int i => if z.length <= aQ then (match atI z.cps.toList i with
  |some c=>some (.str ⟨#[c]⟩)
  |none=>none)else none
 |.dct false kvs,k=>(nj k).bind (ph kvs)
 |.dct true kvs,k=>(d7 k).bind (fm kvs)
 |_,_=>none
def RO:R2:=λx y H Q=>∃a v,x=.ref a/\DGet H a y (some v)/\Q v H
section
variable{X:Cx}{B:Hp}{E:EK}{a b:Expr}{g h:En->Res}{pos:Pos}
def BH(hu:X.A.units+5<eL):IxR X RO:=by
 intro value slice pins s Z H x y v u Q I rx ry q hs;obtain⟨l,w,rfl,dg,q⟩:=q;cases rx;exact tail_any (Jw I dg) PySem.F.slot_dict_getitem.lookup (Sb hu I dg ry λw' s3 I3 rw'=>⟨w,H,I3,rw',q⟩) hs
def Arg.dctT{K:KA}{G H:Hp}{kvs:List (D×D)}{v:V}(s:Same G H)(h:Arg K G H (.dct true kvs) v):∃a es,v=.ref a/\H a=some (.dT es)/\DenT K G kvs es:=by
 rcases h with ⟨a,h1,h2⟩|⟨_,_,_,z,_⟩|⟨t',kvs',a,z,h1,h2⟩
 ·rcases h2 with ⟨z,_⟩|⟨_,es,q,r⟩
  ·cases z
  ·exact⟨a,es,h1,s _ _ q,r⟩
 ·cases z
 ·cases z;rcases h2 with ⟨z,_⟩|⟨_,es,q,r⟩
  ·cases z
  ·exact⟨a,es,h1,q,r⟩
def DB{K:KA}:ib K br (λx y H Q=>YS K x y H Q\/RO x y H Q):=λG H x y dx dy d sg ax ay ed Q q=>by
 unfold br at ed;split at ed
 ·obtain⟨l,vs,rfl,sq,dl⟩:=ax.lst sg;obtain⟨v,ev,dv⟩:=dl.atI ed;exact .inl (.inl ⟨l,vs,_,v,rfl,ay.int,sq,ev,q _ G H (Ext.refl sg) dv⟩)
 ·obtain⟨l,vs,rfl,sq,dl⟩:=ax.tup sg;obtain⟨v,ev,dv⟩:=dl.atI ed;exact .inl (.inr (.inl ⟨l,vs,_,v,rfl,ay.int,sq,ev,q _ G H (Ext.refl sg) dv⟩))
 ·split at ed
  ·rename_i hz;split at ed
   ·rename_i c ec;cases ed;exact .inl (.inr (.inr ⟨_,_,c,ax.str,ay.int,hz,ec,q _ G H (Ext.refl sg) rfl⟩))
   ·cases ed
  ·cases ed
 ·rename_i kvs;cases ek:nj dy with
  |none=>rw[ek]at ed;cases ed
  |some j=>
   rw[ek]at ed;obtain⟨l,es,rfl,h1,dl⟩:=Arg.dctK sg ax;obtain⟨v,ev,dv⟩:=(dl.look j).1 d ed;rw[A5 ay ek];refine .inr ⟨l,v,rfl,?_,q _ G H (Ext.refl sg) dv⟩;rw[<-ev];exact DGet.k h1
 ·rename_i kvs;cases ek:d7 dy with
  |none=>rw[ek]at ed;cases ed
  |some j=>
   rw[ek]at ed;obtain⟨l,es,rfl,h1,dl⟩:=Arg.dctT sg ax;obtain⟨v,ev,dv⟩:=(dl.look j).1 d ed;obtain⟨b,rfl,hb⟩:=Arg.keys sg ay ek;refine .inr ⟨l,v,rfl,?_,q _ G H (Ext.refl sg) dv⟩;rw[<-ev];exact DGet.t h1 hb
 ·cases ed
def RV(hu:X.A.units+5<eL)(ha:lx X B E a g)(hb:lx X B E b h)(hs:Gh b:=by intro _ _;rfl):gq X B E (.Subscript a b pos) (g2 br g h):=PE.imp (QD (JM.or (BH hu)) ha hb hs) λZ H Q q=>UZ DB q
end
end Pu
end
section
namespace L2
open PySem PySem.Spec PyProof.Rows
def Inv.drew{X:Cx}{pins:List (Addr×Obj)}{Z:St}{H:Hp}{s:aI}(I:Inv X pins Z H s)(d':Drawn):Inv X pins Z H {s with drawn:=d'}:=by
 have:=I.step (h':=s.heap) (H':=H) (g':=s.gens) (d':=d') (t':=s.toks) (ch:=[]) (λ_ z=>nomatch z) (λb o _ _ _ e _=>e) (λb o _ _ _ e _=>⟨o.slots,e⟩) (λb o _ _ n=>n) (λb o _ e=>⟨o,e⟩) (λ_ _ z=>z) (λ_ _ _ z=>z) (λ_ _ z=>z) (λ_ z=>z) I.hok I.bare;exact this
end L2
namespace Pu
open PySem PySem.Spec PyProof.Rows L2 PySem.SeqAt PySem.W
theorem Gy{K:KA}{G:Hp}{ds:List D}{vs:List V}(dl:DenL K G ds vs):∀{ps:List Nat},(∀i∈ps,i<ds.length)->DenL K G (ps.map λi=>ds.getD i D.non) (ps.map λi=>vs.getD i V.non)
 |[],_=>rfl
 |i::r,h=>by
  refine⟨_,_,rfl,?_,Gy dl λj hj=>h j (.tail _ hj)⟩;have key:∀{ds:List D}{vs:List V}(i:Nat),DenL K G ds vs->i<ds.length->Den K G (ds.getD i D.non) (vs.getD i V.non):=by
   intro ds;induction ds with
   |nil=>intro vs i _ h;simp at h
   |cons d ds ih=>
    intro vs i dl h;obtain⟨v,vr,rfl,dv,dr⟩:=dl;cases i with
    |zero=>exact dv
    |succ i=>simpa using ih i dr (by simpa using h)
  exact key i dl (h i (.head _))
theorem Iw{vs:List V}{us:List aC}(r:Vals vs us):∀{ps:List Nat},(∀i∈ps,i<vs.length)->Vals (ps.map λi=>vs.getD i V.non) (ps.map λi=>us.getD i cE)
 |[],_=>.nil
 |i::q,h=>by
  refine .cons ?_ (Iw r λj hj=>h j (.tail _ hj));have key:∀{vs:List V}{us:List aC}(i:Nat),Vals vs us->i<vs.length->RelV (vs.getD i V.non) (us.getD i cE):=by
   intro vs us i r;induction r generalizing i with
   |nil=>intro h;simp at h
   |cons hh t ih=>
    intro h;cases i with
    |zero=>exact hh
    |succ i=>simpa using ih i (by simpa using h)
  exact key i r (h i (.head _))
def j4(ds:List D):Option (Nat×List (List Int)):=match md ds with
 |some kz=>some (0,kz)
 |none=>none
theorem Ft:∀{ds:List D}{kz:List (List Int)},md ds=some kz->kz.length=ds.length
 |[],kz,h=>by cases h;rfl
 |d::ds,kz,h=>by
  obtain⟨k,r,_,h2,rfl⟩:=nq h;rw[aE,aE,Ft h2]
def vt{ds:List D}{kz:List (List Int)}(h:j4 ds=some (b,kz)):kz.length=ds.length:=by
 unfold j4 at h;split at h
 ·rename_i e;cases h;exact Ft e
 ·cases h
noncomputable def n4(ds:List D):Option (List D):=if ds.length<2 then some ds else if ds.length<64 then(match j4 ds with
  |some (_,kz)=>if kz.Nodup then some ((lu (kz.zip ds)).map (·.2))else none
  |none=>none)else none
def L5{ds ds':List D}(h:n4 ds=some ds'):ds.length<64/\((ds.length<2/\ds'=ds)\/(2<=ds.length/\∃b kz,j4 ds=some (b,kz)/\kz.Nodup/\ds'=(lu (kz.zip ds)).map (·.2))):=by
 unfold n4 at h
 by_cases h2:ds.length<2
 ·rw[aG h2]at h;cases h;exact⟨by lia,.inl ⟨h2,rfl⟩⟩
 ·rw[aJ h2]at h
  by_cases h64:ds.length<64
  ·rw[aG h64]at h;cases hk:j4 ds with
   |none=>rw[hk]at h;cases h
   |some p=>
    obtain⟨b,kz⟩:=p;rw[hk]at h;dsimp only at h
    by_cases nd:kz.Nodup
    ·rw[aG nd]at h;cases h;exact⟨h64,.inr ⟨by lia,b,kz,rfl,nd,rfl⟩⟩
    ·rw[aJ nd]at h;cases h
  ·rw[aJ h64]at h;cases h
section
variable{X:Cx}{pins:List (Addr×Obj)}{Z:St}{G H:Hp}{s:aI}
def Nx(I:Inv X pins Z H s)(sg:Same G H)(h:j4 ds=some (b,kz))(dl:DenL (kx X) G ds vs)(r:Vals vs us):KeysAre s b us kz:=by
 unfold j4 at h;split at h
 ·rename_i e;cases h;exact Kt I sg e dl r
 ·cases h
end
section
variable{X:Cx}{B:Hp}{E:EK}{e:Expr}{g:En->Res}{pos p:Pos}
def L6{pins:List (Addr×Obj)}{Z:St}{G H:Hp}{s:aI}{a:Addr}{ds':List D}{Q:VK}(hu:X.A.units+5<eL)(I:Inv X pins Z H s)(sg:Same G H)
  (col:∀(Q':List aC->aI->Prop)(E':aC->aI->Prop),(∀d' h' tk its vs ds,(∀b o,s.heap.get? b=some o->h'.get? b=some o)->Vals vs its->DenL (kx X) G ds vs->n4 ds=some ds'->Q' its {s with heap:=h',toks:=tk,drawn:=d'})->bA (bH X.prog X.w) X.A.in1 (collect (.ref a)) Q' E' s)
  (q:∀p vs',H p=none->DenL (kx X) G ds' vs'->Q (.ref p) (upd H p (.lst vs'))):bA (bH X.prog X.w) X.A (call (.builtin "sorted") [.ref a]) (EP X pins Z Q) X.xe s:=by
 refine Calls.call_function_entry kind_sorted plain_sorted entry_sorted (args_sorted1 _) ?_;unfold Builtin.«sorted»;refine aA (m:=checkCount "sorted" 1 1 _) (aB (aA (col _ _ λd0 h1 tk its vs ds k1 rv dl e=>?_)));obtain⟨h64,hh⟩:=L5 e;have n1:its.length=vs.length:=rv.length.symm;have n2:vs.length=ds.length:=dl.length.symm;have zl:its.length<=aQ:=by rw[cD];lia
 refine aA (lK ?_ zl);have I1:Inv X pins Z H {s with heap:=h1,toks:=tk,drawn:=d0}:=(I.drew d0).kept k1;have hoL:(h1.push (dP "list" its.toArray 0)).get? h1.objs.size=some (dP "list" its.toArray 0):=aX _ rfl;have k2:∀b o,h1.get? b=some o->(h1.push (dP "list" its.toArray 0)).get? b=some o/\b≠h1.objs.size:=λb o e=>⟨aD _ e,bJ (aT e)⟩;have hR:2<=its.length->wo X.prog X.w X.A.in1.in1 its its (λp=>PermR its.length p/\∃b kz,j4 ds=some (b,kz)/\kz.Nodup/\So (ux kz) p its.length/\ds'=(lu (kz.zip ds)).map (·.2)) {s with heap:=N3 (h1.push (dP "list" its.toArray 0)) h1.objs.size its,toks:=tk,drawn:=d0}:=λh2=>by
  rcases hh with ⟨z,_⟩|⟨_,b,kz,hk,nd,hd⟩
  ·lia
  ·have I2:Inv X pins Z H {s with heap:=N3 (h1.push (dP "list" its.toArray 0)) h1.objs.size its,toks:=tk,drawn:=d0}:=I1.kept (t':=tk) λb o e=>W8 (k2 b o e).1 (k2 b o e).2;have ka:=Nx I2 sg hk dl rv;intro E';refine bU (Yv (prog:=X.prog) (w:=X.w) (A:=X.A.in1.in1) (vs:=its) rfl ka h2 (by lia) nd (by show X.A.units+1+1+1<eL;lia) E') (λκ s' g=>⟨g.1,λE2=>bU (g.2 E2) (λr s2 g2=>?_) λ_ _ x=>x⟩) λ_ _ x=>x;obtain⟨g1,g2,p,⟨g3,g4⟩,g5,g6⟩:=g2;exact⟨g1,g2,p,⟨g3,b,kz,hk,nd,g4,hd⟩,g5,g6⟩
 refine aA (cM (cU slot_list_sort ⟨_,hoL,rfl⟩ oR (Ot (s:={s with heap:=h1.push (dP "list" its.toArray 0),toks:=tk,drawn:=d0}) hoL (by lia) hR λout ho=>⟨_,rfl,aB ⟨_,rfl,?_⟩⟩) (args_list_sort _)));obtain⟨ep,hat⟩:=sortedHeap_at (out:=out.toArray) hoL;have key:∃vs',DenL (kx X) G ds' vs'/\Vals vs' out:=by
  rcases ho with ⟨z,rfl⟩|⟨z,p,⟨hp,b,kz,hk,nd,hs,hd⟩,hps,rfl⟩
  ·rcases hh with ⟨_,rfl⟩|⟨z2,_⟩
   ·exact⟨vs,dl,rv⟩
   ·lia
  ·have hp':PermR ds.length p:=by rw[<-n2,<-n1];exact hp
   have hs':So (ux kz) p ds.length:=by rw[<-n2,<-n1];exact hs
   have lt:∀i∈p.toList,i<ds.length:=λi hi=>List.mem_range.mp (hp'.mem_iff.mp hi);rw[hd,<-F3 (vt hk) nd hp' hs'];exact⟨_,Gy dl lt,Iw rv λi hi=>by rw[n2];exact lt i hi⟩
 obtain⟨vs',d',v'⟩:=key;have z:vs'.length<=aQ:=by rw[v'.length,ho.len];exact zl
 refine⟨.ref h1.objs.size,_,I1.laid (a:=h1.objs.size) (o:=.lst vs') (t':=tk) (λb o e=>?_) (aH _) ⟨z,out,ep,v',hat⟩,rfl,q _ vs' (I1.hok.fresh (aH _)) d'⟩;have hlt:=aT e;rw[sortedHeap_old (k2 b o e).2 (by rw[fA];exact gV hlt)];exact(k2 b o e).1
def gT(G H:Hp):Hp:=λb=>match H b with
 |some (.tup vs)=>some (.tup vs)
 |_=>G b
def y6(h:H b=some (.tup vs)):gT G H b=some (.tup vs):=by unfold gT;rw[h]
def Hh(h:∀vs,H b≠some (.tup vs)):gT G H b=G b:=by
 unfold gT;split
 ·rename_i vs e;exact absurd e (h vs)
 ·rfl
def V4(sg:Same G H):Ext G H (gT G H) H:=by
 refine⟨λb u q=>?_,Same.refl H,λb u q=>?_,λb u q g z=>?_⟩
 ·have:=sg b u q
  by_cases c:∃vs,u=.tup vs
  ·obtain⟨vs,rfl⟩:=c;exact y6 this
  ·rw[Hh λvs e=>c ⟨vs,by rw[this]at e;cases e;rfl⟩];exact q
 ·by_cases c:∃vs,H b=some (.tup vs)
  ·obtain⟨vs,e⟩:=c;rw[y6 e]at q;rw[e];exact q
  ·rw[Hh λvs e=>c ⟨vs,e⟩]at q;exact sg b u q
 ·rw[Hh λvs e=>by rw[q]at e;cases e;cases z];exact g
def Vq{K:KA}{G:Hp}(k:rn):Den K G (kD k) (kV k):=by cases k<;>exact rfl
theorem Px{K:KA}{G:Hp}:∀ks:List rn,DenL K G (ks.map kD) (ks.map kV)
 |[]=>rfl
 |k::r=>⟨_,_,rfl,Vq k,Px r⟩
def Vr{K:KA}{G H:Hp}{k:NK}{v:V}(h:nkAt H k v):Den K (gT G H) (KR k) v:=by
 cases k with
 |inl k=>rw[show v=kV k from h];exact Vq k
 |inr ks=>obtain⟨b,rfl,q⟩:=h;exact⟨b,_,rfl,y6 q,Px ks⟩
theorem Ju{K:KA}{G H:Hp}:∀{ks:bg}{vs:List V},NkL H ks vs->DenL K (gT G H) (ks.map KR) vs
 |[],_,h=>h
 |_::_,_,⟨v,t,e,h1,h2⟩=>⟨v,t,e,Vr h1,Ju h2⟩
def IC{K:KA}{G H:Hp}{k:bg}{b:Addr}(h:TkAt H k b):Den K (gT G H) (kT k) (.ref b):=by
 obtain⟨vs,h1,h2⟩:=h;exact⟨b,vs,rfl,y6 h1,Ju h2⟩
end
end Pu
end
section
namespace Pu
open PySem PySem.Spec PyProof.Rows L2
def Cs(h1:Nu d=some k)(h2:md ds=some r):md (d::ds)=some (k::r):=by
 unfold md;rw[h1,h2]
def Nw{ds ds2:List D}(p:ds.Perm ds2):∀{kz:List (List Int)},md ds=some kz->∃kz2,md ds2=some kz2/\(kz2.zip ds2).Perm (kz.zip ds):=by
 induction p with
 |nil=>intro kz h;exact⟨kz,h,hO _⟩
 |cons x p ih=>
  intro kz h;obtain⟨k,r,h1,h2,rfl⟩:=nq h;obtain⟨r2,q1,q2⟩:=ih h2;exact⟨k::r2,Cs h1 q1,q2.cons _⟩
 |swap x y l=>
  intro kz h;obtain⟨k,r,h1,h2,rfl⟩:=nq h;obtain⟨k2,r2,h3,h4,rfl⟩:=nq h2;exact⟨k2::k::r2,Cs h3 (Cs h1 h4),kQ _ _ _⟩
 |trans p1 p2 ih1 ih2=>
  intro kz h;obtain⟨k1,q1,q2⟩:=ih1 h;obtain⟨k2,q3,q4⟩:=ih2 q1;exact⟨k2,q3,q4.trans q2⟩
def Os{l l2:List (List Int×D)}(p:l2.Perm l)(nd:(l.map (·.1)).Nodup):lu l2=lu l:=by
 have nd2:(l2.map (·.1)).Nodup:=(p.map _).nodup_iff.mpr nd;exact List.Perm.eq_of_pairwise (le:=λa b:List Int×D=>a.1<b.1) (λa b _ _ h1 h2=>absurd (lM h1 h2) (List.lt_irrefl _)) (yb nd2) (yb nd) ((j8 _).trans (p.trans (j8 _).symm))
def Kr{ds ds2:List D}(p:ds.Perm ds2){kz:List (List Int)}(h:j4 ds=some (b,kz)):∃b2 kz2,j4 ds2=some (b2,kz2)/\(kz2.zip ds2).Perm (kz.zip ds):=by
 unfold j4 at h⊢;cases e:md ds with
 |some k=>
  rw[e]at h;cases h;obtain⟨k2,q1,q2⟩:=Nw p e;exact⟨0,k2,by rw[q1],q2⟩
 |none=>
  rw[e]at h;cases h
def Oo{ds ds2 ds':List D}(p:ds.Perm ds2)(h:n4 ds=some ds'):n4 ds2=some ds':=by
 have pl:=p.length_eq;obtain⟨h64,hh⟩:=L5 h;rcases hh with ⟨h2,rfl⟩|⟨h2,b,kz,hk,nd,rfl⟩
 ·have:ds2=ds':=by
   match ds',ds2,h2,p with
   |[],l,_,p=>exact List.Perm.nil_eq p|>.symm
   |[x],l,_,p=>exact(List.singleton_perm.mp p).symm▸rfl
  rw[this];exact h
 ·obtain⟨b2,kz2,q1,q2⟩:=Kr p hk;have lz:=vt hk;have lz2:=vt q1;have n1:((kz.zip ds).map (·.1)).Nodup:=by rw[oA (by lia)];exact nd
  have n2:kz2.Nodup:=by
   have:=(q2.map (·.1)).nodup_iff.mpr n1;rw[oA (by lia)]at this;exact this
  unfold n4;rw[aJ (by lia),aG (by lia),q1];dsimp only;rw[aG n2,Os q2 n1]
end Pu
end
section
namespace ST
open PySem PySem.SetTable
def Jf(mask:Nat)(p:Probe):Probe:=if p.more>0 then{p with j:=p.j+1,more:=p.more - 1}else
 {p with j:=(leap mask p.i p.perturb).1,more:=runEnd mask (leap mask p.i p.perturb).1 - (leap mask p.i p.perturb).1,i:=(leap mask p.i p.perturb).1,perturb:=(leap mask p.i p.perturb).2}
def it(mask:Nat):Nat->Probe->Probe
 |0,p=>p
 |n+1,p=>it mask n (Jf mask p)
theorem Hk{mask:Nat}:∀(m n:Nat)(p:Probe),it mask (m+n) p=it mask n (it mask m p)
 |0,n,p=>by rw[mF];rfl
 |m+1,n,p=>by
  rw[show m+1+n=(m+n)+1 by lia];exact Hk m n (Jf mask p)
def Uq(mask:Nat)(h:Int):Probe:={j:=bits h % (mask+1),more:=runEnd mask (bits h % (mask+1)) - bits h % (mask+1),i:=bits h % (mask+1),perturb:=bits h,dummy:=none}
structure Val(mask:Nat)(p:Probe):Prop where
 more:p.more<=9
 i:p.i<=mask
 pt:p.perturb<2 ^ 64
 dum:p.dummy=none
 j:p.j+p.more<=mask
def zh{mask i:Nat}(h:i<=mask):i<=runEnd mask i/\runEnd mask i<=mask/\runEnd mask i - i<=9:=by
 unfold runEnd;split<;>lia
def AM(h:Int):bits h<2 ^ 64:=by
 unfold bits;have h1:=oU h (show(2 ^ 64:Int)≠0 by decide);have h2:=mZ h (show(0:Int)<2 ^ 64 by decide)
 lia
def Bg(mask:Nat)(h:Int):Val mask (Uq mask h):=by
 have e:bits h % (mask+1)<=mask:=Nat.le_of_lt_succ (Nat.mod_lt _ (Nat.succ_pos _));obtain⟨h1,h2,h3⟩:=zh e;exact⟨h3,e,AM h,rfl,by show bits h % (mask+1)+(runEnd mask (bits h % (mask+1)) - bits h % (mask+1))<=mask;lia⟩
def Ai(mask:Nat)(p:Probe):Nat:=(p.i * 5+1+p.perturb / 32) % (mask+1)
def xq(mask:Nat)(p:Probe):Probe:={p with j:=Ai mask p,more:=runEnd mask (Ai mask p) - Ai mask p,i:=Ai mask p,perturb:=p.perturb / 32}
def yj{mask:Nat}{p:Probe}(v:Val mask p):Val mask (xq mask p):=by
 have e:Ai mask p<=mask:=Nat.le_of_lt_succ (Nat.mod_lt _ (Nat.succ_pos _));obtain⟨h1,h2,h3⟩:=zh e;exact⟨h3,e,mL (Nat.div_le_self _ _) v.pt,v.dum,by show Ai mask p+(runEnd mask (Ai mask p) - Ai mask p)<=mask;lia⟩
def GU{mask:Nat}{p:Probe}(v:Val mask p):Val mask (Jf mask p):=by
 unfold Jf;split
 ·exact⟨by have:=v.more;show p.more - 1<=9;lia,v.i,v.pt,v.dum,by have:=v.j;show p.j+1+(p.more - 1)<=mask;lia⟩
 ·exact yj v
theorem Pb{mask:Nat}:∀(n:Nat){p:Probe},Val mask p->Val mask (it mask n p)
 |0,_,v=>v
 |n+1,_,v=>Pb n (GU v)
theorem Hl{mask:Nat}:∀(k:Nat)(p:Probe),p.more=k->it mask (k+1) p=xq mask p
 |0,p,h=>by
  show Jf mask p=_;unfold Jf;rw[aJ (by lia)];rfl
 |k+1,p,h=>by
  show it mask (k+1) (Jf mask p)=_;have e:Jf mask p={p with j:=p.j+1,more:=p.more - 1}:=by unfold Jf;rw[aG (by lia)]
  rw[Hl k (Jf mask p) (by rw[e];show p.more - 1=k;lia),e];rfl
def K1(mask:Nat):Nat->Probe->Probe
 |0,p=>p
 |n+1,p=>K1 mask n (xq mask p)
theorem Wp{mask:Nat}:∀(k:Nat){p:Probe},Val mask p->∃m,m<=10 * k/\it mask m p=K1 mask k p
 |0,p,v=>⟨0,by lia,rfl⟩
 |k+1,p,v=>by
  obtain⟨m,h1,h2⟩:=Wp k (yj v);have:=v.more;exact⟨p.more+1+m,by lia,by rw[Hk,Hl _ p rfl,h2];rfl⟩
theorem xr{mask:Nat}:∀(m n:Nat)(p:Probe),K1 mask (m+n) p=K1 mask n (K1 mask m p)
 |0,n,p=>by rw[mF];rfl
 |m+1,n,p=>by
  rw[show m+1+n=(m+n)+1 by lia];exact xr m n (xq mask p)
theorem Iv{mask:Nat}:∀(n:Nat){p:Probe},Val mask p->Val mask (K1 mask n p)
 |0,_,v=>v
 |n+1,_,v=>Iv n (yj v)
theorem N1{mask:Nat}:∀(k:Nat)(p:Probe),(K1 mask k p).perturb=p.perturb / 32 ^ k
 |0,p=>by rw[Nat.pow_zero,Nat.div_one];rfl
 |k+1,p=>by
  show(K1 mask k (xq mask p)).perturb=_;rw[N1 k,kW,oJ,<-Nat.div_div_eq_div_mul];rfl
def lc(mask:Nat):Nat->Nat->Nat
 |0,i=>i
 |n+1,i=>lc mask n ((i * 5+1) % (mask+1))
theorem Hr{mask:Nat}:∀(m n i:Nat),lc mask (m+n) i=lc mask n (lc mask m i)
 |0,n,p=>by rw[mF];rfl
 |m+1,n,p=>by
  rw[show m+1+n=(m+n)+1 by lia];exact Hr m n _
theorem N0{mask:Nat}:∀(k:Nat){p:Probe},p.perturb=0->p.j=p.i->(K1 mask k p).i=lc mask k p.i/\(K1 mask k p).j=lc mask k p.i
 |0,p,h,e=>⟨rfl,e⟩
 |k+1,p,h,e=>by
  have:=N0 (mask:=mask) k (p:=xq mask p) (by show p.perturb / 32=0;rw[h]) rfl;have e2:(xq mask p).i=(p.i * 5+1) % (mask+1):=by show(p.i * 5+1+p.perturb / 32) % (mask+1)=_;rw[h]
  rw[e2]at this;exact this
def Xl(mask:Nat):Nat->Nat->List Nat
 |0,_=>[]
 |n+1,i=>i::Xl mask n ((i * 5+1) % (mask+1))
theorem Hz{mask j:Nat}:∀{n i:Nat},j∈Xl mask n i->∃k,k<n/\lc mask k i=j
 |0,i,h=>by cases h
 |n+1,i,h=>by
  rcases List.mem_cons.mp h with h|h
  ·exact⟨0,by lia,h.symm⟩
  ·obtain⟨k,h1,h2⟩:=Hz h;exact⟨k+1,by lia,h2⟩
def Mk(mask:Nat):Prop:=mask=7\/mask=31\/mask=127
def DQ{mask:Nat}(hm:Mk mask):(∀j,j<=mask->j∈Xl mask (mask+1) 0)/\lc mask (mask+1) 0=0:=by
 have g:∀m,((aW (m+1)).all λj=>(Xl m (m+1) 0).contains j)=true->∀j,j<=m->j∈Xl m (m+1) 0:=λm h j hj=>by
  have:=List.all_eq_true.mp h j (List.mem_range.mpr (by lia));simpa using this
 rcases hm with rfl|rfl|rfl
 ·exact⟨g _ (by decide+kernel),by decide+kernel⟩
 ·exact⟨g _ (by decide+kernel),by decide+kernel⟩
 ·exact⟨g _ (by decide+kernel),by decide+kernel⟩
def Kx{mask i j:Nat}(hm:Mk mask)(hi:i<=mask)(hj:j<=mask):∃k,k<=mask/\lc mask k i=j:=by
 obtain⟨h1,h2⟩:=DQ hm;obtain⟨a,a1,a2⟩:=Hz (h1 i hi);obtain⟨b,b1,b2⟩:=Hz (h1 j hj)
 by_cases h:a<=b
 ·exact⟨b - a,by lia,by rw[<-a2,<-Hr,show a+(b - a)=b by lia,b2]⟩
 ·exact⟨mask+1 - a+b,by lia,by rw[<-a2,<-Hr,show a+(mask+1 - a+b)=(mask+1)+b by lia,Hr,h2,b2]⟩
def PM{mask j:Nat}{p:Probe}(hm:Mk mask)(v:Val mask p)(hj:j<=mask):∃m,m<10 * turns mask/\(it mask m p).j=j:=by
 have v13:=Iv 13 v;have p0:(K1 mask 13 p).perturb=0:=by
  rw[N1];exact Nat.div_eq_of_lt (bI v.pt (by decide))
 have e13:(K1 mask 13 p).j=(K1 mask 13 p).i:=by
  rw[show(13:Nat)=12+1 from rfl,xr];rfl
 obtain⟨k,k1,k2⟩:=Kx hm v13.i hj;obtain⟨m,m1,m2⟩:=Wp (13+k) v;refine⟨m,by unfold turns;lia,?_⟩;rw[m2,xr,(N0 k p0 e13).2,k2]
abbrev Ris(xs:Array Nat):Prop:=xs.toList.Pairwise (· <·)
def Ris.lt{xs:Array Nat}(h:Ris xs){a b x y:Nat}(hab:a<b)(hx:xs[a]?=some x)(hy:xs[b]?=some y):x<y:=by
 rw[<-bO]at hx hy;obtain⟨a1,rfl⟩:=List.getElem?_eq_some_iff.mp hx;obtain⟨b1,rfl⟩:=List.getElem?_eq_some_iff.mp hy;exact List.pairwise_iff_getElem.mp h a b a1 b1 hab
def Ris.inj(h:Ris xs){a b x:Nat}(hx:xs[a]?=some x)(hy:xs[b]?=some x):a=b:=by
 rcases iR a b with z|z|z
 ·exact absurd (h.lt z hx hy) (cI _)
 ·exact z
 ·exact absurd (h.lt z hy hx) (cI _)
theorem Br{xs:Array Nat}(h:Ris xs):∀(fuel lo hi:Nat),hi<=xs.size->lo<=hi->hi - lo<=fuel->(∀k x,k<lo->xs[k]?=some x->x<j)->(∀k x,hi<=k->xs[k]?=some x->j<=x)->
  below.go xs j fuel lo hi<=xs.size/\(∀k x,k<below.go xs j fuel lo hi->xs[k]?=some x->x<j)/\(∀k x,below.go xs j fuel lo hi<=k->xs[k]?=some x->j<=x)
 |0,lo,hi,h1,h2,h3,a,b=>by
  have:lo=hi:=by lia
  subst this;exact⟨h1,a,b⟩
 |fuel+1,lo,hi,h1,h2,h3,a,b=>by
  unfold below.go
  by_cases hl:lo<hi
  ·rw[aG hl];dsimp only;have hm:(lo+hi) / 2<xs.size:=by lia
   have eg:xs[(lo+hi) / 2]?=some (xs.getD ((lo+hi) / 2) j):=by
    rw[bP hm];simp[mV,hm]
   by_cases hc:xs.getD ((lo+hi) / 2) j<j
   ·rw[aG hc];refine Br h fuel _ hi h1 (by lia) (by lia) (λk x hk hx=>?_) b;rcases fY k ((lo+hi) / 2)with z|z
    ·exact Nat.lt_trans (h.lt z hx eg) hc
    ·have:k=(lo+hi) / 2:=by lia
     subst this;rw[eg]at hx;cases hx;exact hc
   ·rw[aJ hc];refine Br h fuel lo _ (by lia) (by lia) (by lia) a (λk x hk hx=>?_);rcases fY ((lo+hi) / 2) k with z|z
    ·have:=h.lt z eg hx;lia
    ·have:k=(lo+hi) / 2:=by lia
     subst this;rw[eg]at hx;cases hx;lia
  ·rw[aJ hl];have:lo=hi:=by lia
   subst this;exact⟨h1,a,b⟩
def w9{xs:Array Nat}(h:Ris xs):below xs j<=xs.size/\(∀k x,k<below xs j->xs[k]?=some x->x<j)/\(∀k x,below xs j<=k->xs[k]?=some x->j<=x):=
 Br h xs.size 0 xs.size (aH _) (by lia) (by lia) (λk x hk=>by lia) λk x hk hx=>by
  obtain⟨z,_⟩:=Array.getElem?_eq_some_iff.mp hx
  lia
def U3(h:Ris xs)(e:xs[i]?=some j):below xs j=i:=by
 obtain⟨_,h2,h3⟩:=w9 (j:=j) h;rcases iR i (below xs j)with z|z|z
 ·exact absurd (h2 i j z e) (cI _)
 ·exact z.symm
 ·have hz:below xs j<xs.size:=by
   obtain⟨q,_⟩:=Array.getElem?_eq_some_iff.mp e
   lia
  have e2:xs[below xs j]?=some xs[below xs j]:=bP hz;have:=h3 _ _ (aH _) e2;have:=h.lt z e2 e
  lia
def F9{t:cY}(h:Ris t.place)(e:t.place[i]?=some j):t.slot j=.live i:=by
 unfold slot;rw[U3 h e];dsimp only;rw[aG (by rw[e];exact beq_self_eq_true _)]
def Om{t:cY}(hd:t.dummies=#[])(e:j∉t.place.toList):t.slot j=.empty:=by
 unfold slot;dsimp only;rw[aJ (λz=>e (by
  have z:t.place[below t.place j]?=some j:=by simpa using z
  rw[<-bO]at z;exact bF z)),hd]
 rfl
def Ol{t:cY}(h:Ris t.place)(hd:t.dummies=#[])(j:Nat):(∃i,t.place[i]?=some j/\t.slot j=.live i)\/(j∉t.place.toList/\t.slot j=.empty):=by
 by_cases e:j∈t.place.toList
 ·obtain⟨i,hi⟩:=eX e;rw[bO]at hi;exact .inl ⟨i,hi,F9 h hi⟩
 ·exact .inr ⟨e,Om hd e⟩
theorem N8:∀(n:Nat)(l:List Nat),l.length<n->∃j,j<n/\j∉l
 |0,l,h=>by lia
 |n+1,l,h=>by
  by_cases e:n∈l
  ·obtain⟨j,h1,h2⟩:=N8 n (l.erase n) (by rw[List.length_erase_of_mem e];have:=List.length_pos_of_mem e;lia);exact⟨j,by lia,λz=>h2 ((List.mem_erase_of_ne (by lia)).mpr z)⟩
  ·exact⟨n,by lia,e⟩
theorem P8{t:cY}(hr:Ris t.place)(hd:t.dummies=#[]):∀(fuel:Nat)(p:Probe),p.dummy=none->(∃m,m<fuel/\(it t.mask m p).j∉t.place.toList)->
  ∃m,m<fuel/\(∀m',m'<m->∃i,t.place[i]?=some (it t.mask m' p).j/\hashAt i≠h)/\
   (((it t.mask m p).j∉t.place.toList/\probe.go t hashAt h fuel p=some (.empty (it t.mask m p).j none))\/
    ∃i,t.place[i]?=some (it t.mask m p).j/\hashAt i=h/\probe.go t hashAt h fuel p=some (.candidate (it t.mask m p).j i (it t.mask (m+1) p)))
 |0,p,_,⟨m,h1,_⟩=>by lia
 |fuel+1,p,hp,⟨m0,h1,h2⟩=>by
  rcases Ol hr hd p.j with ⟨i,e1,e2⟩|⟨e1,e2⟩
  ·by_cases hh:hashAt i=h
   ·refine⟨0,by lia,λm' z=>by lia,.inr ⟨i,e1,hh,?_⟩⟩;unfold probe.go;rw[e2];dsimp only;rw[aG (by rw[hh];exact beq_self_eq_true _)];rfl
   ·have hm0:m0≠0:=λz=>by
     subst z;rw[<-bO]at e1;exact h2 (bF e1)
    obtain⟨k,rfl⟩:∃k,m0=k+1:=⟨m0 - 1,by lia⟩;have hp':(Jf t.mask p).dummy=none:=by unfold Jf;split<;>exact hp
    obtain⟨m,q1,q2,q3⟩:=P8 (hashAt:=hashAt) (h:=h) hr hd fuel (Jf t.mask p) hp' ⟨k,by lia,h2⟩;have eg:probe.go t hashAt h (fuel+1) p=probe.go t hashAt h fuel (Jf t.mask p):=by
     rw[probe.go,e2];dsimp only;rw[aJ (by simpa using hh)];rfl
    refine⟨m+1,by lia,λm' z=>?_,?_⟩
    ·cases m' with
     |zero=>exact⟨i,e1,hh⟩
     |succ m'=>exact q2 m' (by lia)
    ·rw[eg];exact q3
  ·refine⟨0,by lia,λm' z=>by lia,.inl ⟨e1,?_⟩⟩;unfold probe.go;rw[e2];dsimp only;rw[hp];rfl
def d9(mask:Nat)(h:Int)(m:Nat):Nat:=(it mask m (Uq mask h)).j
def Qs{mask m:Nat}{h:Int}:d9 mask h m<=mask:=by
 have:=(Pb m (Bg mask h)).j;unfold d9
 lia
structure TOk(t:cY)(hs:List Int):Prop where
 mask:Mk t.mask
 dum:t.dummies=#[]
 len:t.place.size=hs.length
 rise:Ris t.place
 le:∀j∈t.place.toList,j<=t.mask
 room:t.place.size<=t.mask
 reach:∀q∈t.place.toList.zip hs,∃m,d9 t.mask q.2 m=q.1/\∀m',m'<m->d9 t.mask q.2 m'∈t.place.toList
def TOk.fits{t:cY}{hs:List Int}(T:TOk t hs):t.place.size=hs.length/\t.fill<=t.mask:=by
 refine⟨T.len,?_⟩;unfold fill;rw[T.dum];exact T.room
def TOk.empty{t:cY}(T:TOk t hs)(p:Probe)(v:Val t.mask p):∃m,m<10 * turns t.mask/\(it t.mask m p).j∉t.place.toList:=by
 obtain⟨j,h1,h2⟩:=N8 (t.mask+1) t.place.toList (by have:=T.room;rw[aL];lia);obtain⟨m,m1,m2⟩:=PM T.mask v (j:=j) (by lia);exact⟨m,m1,by rw[m2];exact h2⟩
theorem TOk.probe{t:cY}(T:TOk t hs)(hashAt:Nat->Int)(h:Int)(m:Nat):∃m1,m<=m1/\(∀m',m<=m'->m'<m1->∃i,t.place[i]?=some (d9 t.mask h m')/\hashAt i≠h)/\
   ((d9 t.mask h m1∉t.place.toList/\t.probe hashAt h (it t.mask m (Uq t.mask h))=some (.empty (d9 t.mask h m1) none))\/
   ∃i,t.place[i]?=some (d9 t.mask h m1)/\hashAt i=h/\t.probe hashAt h (it t.mask m (Uq t.mask h))=some (.candidate (d9 t.mask h m1) i (it t.mask (m1+1) (Uq t.mask h)))):=by
 have v:=Pb m (Bg t.mask h);obtain⟨k,k1,k2,k3⟩:=P8 (hashAt:=hashAt) (h:=h) T.rise T.dum (10 * turns t.mask) _ v.dum (T.empty _ v);have e:∀n,(it t.mask n (it t.mask m (Uq t.mask h)))=it t.mask (m+n) (Uq t.mask h):=λn=>(Hk m n _).symm;refine⟨m+k,by lia,λm' a b=>?_,?_⟩
 ·have:=k2 (m' - m) (by lia);rw[e,show m+(m' - m)=m' by lia]at this;exact this
 ·rw[e,e]at k3;exact k3
def TOk.first{t:cY}(T:TOk t hs)(h:Int):∃M,M<10 * turns t.mask/\d9 t.mask h M∉t.place.toList:=T.empty _ (Bg t.mask h)
def Zy{mask:Nat}(h:Mk mask):10 * turns mask<=1420:=by
 unfold turns;rcases h with rfl|rfl|rfl<;>decide
def f6(xs:Array α)(p:Nat)(x:α):(insertAt xs p x).toList=xs.toList.take p++x::xs.toList.drop p:=by
 unfold insertAt;simp[List.extract_eq_drop_take];exact kN (by simp)
def Ba{l:List α}:y∈l.take p++x::l.drop p↔y=x\/y∈l:=by
 rw[lZ,dU];constructor
 ·rintro (h|h|h)
  ·exact .inr (List.mem_of_mem_take h)
  ·exact .inl h
  ·exact .inr (List.mem_of_mem_drop h)
 ·rintro (h|h)
  ·exact .inr (.inl h)
  ·rw[<-lA p l,lZ]at h;rcases h with h|h
   ·exact .inl h
   ·exact .inr (.inr h)
def GQ{l:List α}{r:List β}(hl:l.length=r.length):(l.take p++x::l.drop p).zip (r.take p++y::r.drop p)=(l.zip r).take p++(x,y)::(l.zip r).drop p:=by
 rw[List.zip_append (by rw[dS,dS,hl]),jT];unfold List.zip;rw[List.take_zipWith,List.drop_zipWith]
theorem TOk.put{t:cY}(T:TOk t hs)(hn:d9 t.mask h m∉t.place.toList)(hb:∀m',m'<m->d9 t.mask h m'∈t.place.toList)(room:t.place.size+1<=t.mask):
  ∃p,p<=hs.length/\(t.put (d9 t.mask h m)).2=p/\TOk (t.put (d9 t.mask h m)).1 (hs.take p++h::hs.drop p)/\(t.put (d9 t.mask h m)).1={t with place:=insertAt t.place p (d9 t.mask h m),dummies:=#[]}:=by
 obtain⟨b1,b2,b3⟩:=w9 (j:=d9 t.mask h m) T.rise;have hd:has t.dummies (d9 t.mask h m)=false:=by rw[T.dum];rfl
 have ep:(t.put (d9 t.mask h m)).1={t with place:=insertAt t.place (below t.place (d9 t.mask h m)) (d9 t.mask h m),dummies:=#[]}:=by
  unfold SetTable.put;dsimp only;rw[hd,T.dum];rfl
 refine⟨below t.place (d9 t.mask h m),by rw[<-T.len];exact b1,rfl,?_,ep⟩;rw[ep];generalize hp:below t.place (d9 t.mask h m)=p at *;have hl:t.place.toList.length=hs.length:=by rw[aL];exact T.len
 have lt:∀x∈t.place.toList.take p,x<d9 t.mask h m:=λx hx=>by
  obtain⟨i,hi⟩:=eX hx;rw[List.getElem?_take]at hi;split at hi
  ·rename_i z;rw[bO]at hi;exact b2 i x z hi
  ·cases hi
 have gt:∀x∈t.place.toList.drop p,d9 t.mask h m<x:=λx hx=>by
  obtain⟨i,hi⟩:=eX hx;rw[List.getElem?_drop,bO]at hi;have h1:=b3 _ x (jC p i) hi;have h2:x≠d9 t.mask h m:=λz=>by
   subst z;rw[<-bO]at hi;exact hn (bF hi)
  lia
 have rs:(t.place.toList.take p).Pairwise (· <·)/\(t.place.toList.drop p).Pairwise (· <·):=by
  have:=T.rise;unfold Ris at this;rw[<-lA p t.place.toList,List.pairwise_append]at this;exact⟨this.1,this.2.1⟩
 refine⟨T.mask,rfl,?_,?_,?_,?_,?_⟩
 ·show(insertAt t.place p _).size=_;rw[<-aL,f6];simp only[aZ,dS,aE,dH,hl]
 ·show((insertAt t.place p (d9 t.mask h m)).toList).Pairwise (· <·);rw[f6,List.pairwise_append];refine⟨rs.1,List.pairwise_cons.mpr ⟨gt,rs.2⟩,λx hx y hy=>?_⟩;rcases List.mem_cons.mp hy with rfl|hy
  ·exact lt x hx
  ·exact Nat.lt_trans (lt x hx) (gt y hy)
 ·show∀j∈(insertAt t.place p (d9 t.mask h m)).toList,j<=t.mask;rw[f6];intro j hj;rcases Ba.mp hj with rfl|hj
  ·exact Qs
  ·exact T.le j hj
 ·show(insertAt t.place p _).size<=t.mask;rw[<-aL,f6];simp only[aZ,dS,aE,dH,aL]
  lia
 ·show∀q∈(insertAt t.place p (d9 t.mask h m)).toList.zip _,∃m',d9 t.mask q.2 m'=q.1/\∀k,k<m'->d9 t.mask q.2 k∈(insertAt t.place p (d9 t.mask h m)).toList;rw[f6,GQ hl];intro q hq;rcases Ba.mp hq with rfl|hq
  ·exact⟨m,rfl,λk hk=>Ba.mpr (.inr (hb k hk))⟩
  ·obtain⟨m',h1,h2⟩:=T.reach q hq;exact⟨m',h1,λk hk=>Ba.mpr (.inr (h2 k hk))⟩
def Uc(fg mv:Nat)(led:Bool):TOk (.fresh fg mv led) []:=⟨.inl rfl,rfl,rfl,iQ,(λj hj=>absurd (show j∈([]:List Nat)from hj) (by simp)),bX _,(λq hq=>absurd (show q∈([]:List (Nat×Int))from hq) (by simp))⟩
structure Own(mask:Nat)(owner:Array (Option Nat))(L:List Nat):Prop where
 size:owner.size=mask+1
 nd:L.Nodup
 le:∀j∈L,j<=mask
 at_:∀(j i:Nat),owner[j]?=some (some i)↔L[i]?=some j
theorem Own.none{mask:Nat}{owner:Array (Option Nat)}{L:List Nat}(O:Own mask owner L){j:Nat}(hj:j<=mask):(owner.getD j (some 0)).isNone=true↔j∉L:=by
 have hz:j<owner.size:=by rw[O.size];lia
 have eg:owner.getD j (some 0)=owner[j]:=by simp[mV,hz]
 rw[eg];cases e:owner[j]with
 |none=>
  refine⟨λ_ z=>?_,λ_=>rfl⟩;obtain⟨i,hi⟩:=eX z;have:=(O.at_ j i).mpr hi;rw[bP hz,e]at this;cases this
 |some i=>
  refine⟨λz=>(by cases z),λz=>absurd (bF ((O.at_ j i).mp ?_)) z⟩;rw[bP hz,e]
theorem Nr{mask:Nat}:∀(k:Nat)(p:Probe),k<=p.more->(it mask k p).j=p.j+k
 |0,p,_=>rfl
 |k+1,p,h=>by
  show(it mask k (Jf mask p)).j=_;have e:Jf mask p={p with j:=p.j+1,more:=p.more - 1}:=by unfold Jf;rw[aG (by lia)]
  rw[e,Nr k _ (by show k<=p.more - 1;lia)];show p.j+1+k=p.j+(k+1)
  lia
def Ng:(∀k,(aW n).find? f=some k->k<n/\f k=true/\∀k',k'<k->f k'=false)/\((aW n).find? f=none->∀k,k<n->f k=false):=by
 refine⟨λk h=>?_,λh k hk=>?_⟩
 ·have h1:=List.mem_range.mp (jH h);have h2:=oV h;refine⟨h1,h2,λk' hk'=>?_⟩;obtain⟨_,as,bs,e1,e2⟩:=List.find?_eq_some_iff_append.mp h;have la:as.length=k:=by
   have e3:(aW n)[as.length]?=some k:=by rw[e1];simp
   rw[gZ (by
    have:=congrArg gS e1;simp at this
    lia)]at e3
   exact bS e3
  have:k'∈as:=by
   have e3:(aW n)[k']?=some k':=gZ (by lia);rw[e1,cP (by lia)]at e3;exact bF e3
  simpa using e2 k' this
 ·have:=List.find?_eq_none.mp h k (List.mem_range.mpr hk);simpa using this
theorem P5{mask:Nat}{owner:Array (Option Nat)}{L:List Nat}(O:Own mask owner L):∀(fuel:Nat)(p:Probe),Val mask p->p.j=p.i->p.more=runEnd mask p.i - p.i->(∃k,k<fuel/\(K1 mask k p).j∉L)->
  ∃m,layClean.free mask owner fuel p.i p.perturb=some (it mask m p).j/\(it mask m p).j∉L/\∀m',m'<m->(it mask m' p).j∈L
 |0,p,_,_,_,⟨k,h,_⟩=>by lia
 |fuel+1,p,v,ej,em,⟨k,hk,hf⟩=>by
  obtain⟨r1,r2,r3⟩:=zh v.i;obtain⟨f1,f2⟩:=Ng (n:=runEnd mask p.i+1 - p.i) (f:=λk=>(owner.getD (p.i+k) (some 0)).isNone);unfold layClean.free;cases e:(aW (runEnd mask p.i+1 - p.i)).find? λk=>(owner.getD (p.i+k) (some 0)).isNone with
  |some q=>
   obtain⟨q1,q2,q3⟩:=f1 q e;dsimp only;have eq:∀x,x<=q->(it mask x p).j=p.i+x:=λx hx=>by rw[Nr x p (by lia),ej]
   refine⟨q,by rw[eq q (aH _)],?_,λm' hm=>?_⟩
   ·rw[eq q (aH _)];exact(O.none (by lia)).mp q2
   ·rw[eq m' (by lia)];refine eJ λz=>?_;have:=(O.none (j:=p.i+m') (by lia)).mpr z;have:=q3 m' hm
    simp_all
  |none=>
   dsimp only;have all:=f2 e;have ne:k≠0:=λz=>by
    subst z;refine hf ?_;refine eJ λz=>?_;have z':p.i+0∉L:=by rw[Nat.add_zero,<-ej];exact z
    have a:=all 0 (by lia);have b:=(O.none (j:=p.i+0) (by lia)).mpr z'
    simp_all
   obtain⟨k',rfl⟩:∃k',k=k'+1:=⟨k - 1,by lia⟩;obtain⟨m,m1,m2,m3⟩:=P5 O fuel (xq mask p) (yj v) rfl rfl ⟨k',by lia,hf⟩;have el:∀x,it mask (p.more+1+x) p=it mask x (xq mask p):=λx=>by rw[Hk,Hl _ p rfl]
   refine⟨p.more+1+m,?_,?_,λm' hm=>?_⟩
   ·rw[el];exact m1
   ·rw[el];exact m2
   ·rcases fY m' (p.more+1)with z|z
    ·rw[Nr m' p (by lia),ej];refine eJ λy=>?_;have a:=all m' (by lia);have b:=(O.none (j:=p.i+m') (by lia)).mpr y
     simp_all
    ·have:=m3 (m' - (p.more+1)) (by lia);rw[<-el,show p.more+1+(m' - (p.more+1))=m' by lia]at this;exact this
def BU{mask:Nat}{owner:Array (Option Nat)}{L:List Nat}(hm:Mk mask)(O:Own mask owner L)(hl:L.length<=mask)(h:Int):
  ∃m,layClean.free mask owner (turns mask) (bits h % (mask+1)) (bits h)=some (d9 mask h m)/\d9 mask h m∉L/\∀m',m'<m->d9 mask h m'∈L:=by
 obtain⟨j,j1,j2⟩:=N8 (mask+1) L (by lia);have v:=Bg mask h;have v13:=Iv 13 v;have p0:(K1 mask 13 (Uq mask h)).perturb=0:=by
  rw[N1];exact Nat.div_eq_of_lt (bI v.pt (by decide))
 have e13:(K1 mask 13 (Uq mask h)).j=(K1 mask 13 (Uq mask h)).i:=by
  rw[show(13:Nat)=12+1 from rfl,xr];rfl
 obtain⟨k,k1,k2⟩:=Kx hm v13.i (show j<=mask by lia);exact P5 O (turns mask) (Uq mask h) v rfl rfl ⟨13+k,by unfold turns;lia,by rw[xr,(N0 k p0 e13).2,k2];exact j2⟩
def Own.snoc{mask:Nat}{owner:Array (Option Nat)}{L:List Nat}(O:Own mask owner L){j:Nat}(hj:j<=mask)(hn:j∉L):Own mask (owner.setIfInBounds j (some L.length)) (L++[j]):=by
 have hz:j<owner.size:=by rw[O.size];lia
 refine⟨by rw[Array.size_setIfInBounds];exact O.size,?_,?_,λx i=>?_⟩
 ·rw[List.nodup_append];exact⟨O.nd,by simp,λa ha b hb=>by rw[List.mem_singleton.mp hb];exact λz=>hn (z▸ha)⟩
 ·intro x hx;rcases List.mem_append.mp hx with hx|hx
  ·exact O.le x hx
  ·rw[List.mem_singleton.mp hx];exact hj
 ·rw[Array.getElem?_setIfInBounds]
  by_cases e:j=x
  ·subst e;rw[aG rfl,aG hz];constructor
   ·intro z;cases z;simp
   ·intro z;rcases iR i L.length with y|y|y
    ·rw[cP y]at z;exact absurd (bF z) hn
    ·rw[y]
    ·rw[cJ (by lia)]at z;have:=(List.getElem?_eq_some_iff.mp z).1;simp at this
     lia
  ·rw[aJ e,O.at_];rcases fY i L.length with y|y
   ·rw[cP y]
   ·rw[cJ y,eM y];constructor
    ·intro z;cases z
    ·intro z;have:=List.mem_singleton.mp (bF z);exact absurd this.symm e
theorem Kv{mask:Nat}(hm:Mk mask):∀(hs:List Int)(owner:Array (Option Nat))(L:List Nat)(pre:List Int),Own mask owner L->L.length=pre.length->L.length+hs.length<=mask->
  (∀q∈L.zip pre,∃m,d9 mask q.2 m=q.1/\∀m',m'<m->d9 mask q.2 m'∈L)->
  ∃owner' L',hs.foldl (init:=some (owner,L.length)) (λacc h=>do
    let (owner,k) <-acc;let j <-layClean.free mask owner (turns mask) (bits h % (mask+1)) (bits h)
    pure (owner.setIfInBounds j (some k),k+1))=some (owner',L'.length)/\Own mask owner' L'/\L'.length=(pre++hs).length/\
   ∀q∈L'.zip (pre++hs),∃m,d9 mask q.2 m=q.1/\∀m',m'<m->d9 mask q.2 m'∈L'
 |[],owner,L,pre,O,hl,_,r=>⟨owner,L,rfl,O,by rw[cA];exact hl,by rw[cA];exact r⟩
 |h::hs,owner,L,pre,O,hl,hr,r=>by
  rw[aE]at hr;obtain⟨m,m1,m2,m3⟩:=BU hm O (by lia) h;have O':=O.snoc Qs m2;have lL:(L++[d9 mask h m]).length=L.length+1:=by simp
  obtain⟨owner',L',h1,h2,h3,h4⟩:=Kv hm hs _ _ (pre++[h]) O' (by simp[hl]) (by rw[lL];lia) (λq hq=>by
   rw[List.zip_append hl,jT,List.zip_nil_left]at hq;rcases List.mem_append.mp hq with hq|hq
   ·obtain⟨k,k1,k2⟩:=r q hq;exact⟨k,k1,λm' z=>bW _ (k2 m' z)⟩
   ·rw[List.mem_singleton.mp hq];exact⟨m,rfl,λm' z=>bW _ (m3 m' z)⟩)
  refine⟨owner',L',?_,h2,by rw[h3];simp,by
   rw[dM]at h4;exact h4⟩
  rw[fS];rw[lL]at h1;rw[<-h1]
  congr 1
  show(layClean.free mask owner (turns mask) (bits h % (mask+1)) (bits h)).bind _=_;rw[m1];rfl
def WD(mask:Nat):Own mask (Array.replicate (mask+1) none) []:=by
 refine⟨by simp,kM,λj hj=>(by cases hj),λj i=>?_⟩;constructor
 ·intro h;rw[Array.getElem?_replicate]at h;split at h<;>cases h
 ·intro h;cases h
def S7{mask:Nat}(hm:Mk mask)(hs:Array Int)(hl:hs.size<=mask):∃owner L,layClean mask hs=some owner/\Own mask owner L/\L.length=hs.size/\
  ∀q∈L.zip hs.toList,∃m,d9 mask q.2 m=q.1/\∀m',m'<m->d9 mask q.2 m'∈L:=by
 obtain⟨owner,L,h1,h2,h3,h4⟩:=Kv hm hs.toList _ [] [] (WD mask) rfl (by simpa using hl) (λq hq=>by cases hq);refine⟨owner,L,?_,h2,by simpa using h3,by simpa using h4⟩;unfold layClean;rw[<-Array.foldl_toList];exact congrArg (oN (·.1)) h1
def nr(mask:Nat)(owner:Array (Option Nat)):List (Nat×Nat):=(aW (mask+1)).filterMap λj=>(owner.getD j none).map (j,·)
def nt{mask:Nat}{owner:Array (Option Nat)}{L:List Nat}(O:Own mask owner L){q:Nat×Nat}:q∈nr mask owner↔L[q.2]?=some q.1:=by
 have e:∀j,j<mask+1->owner[j]?=some (owner.getD j none):=λj hj=>by
  have hz:j<owner.size:=by rw[O.size];exact hj
  rw[bP hz];simp[mV,hz]
 unfold nr;rw[List.mem_filterMap];constructor
 ·rintro ⟨j,hj,h⟩
  have hj:=List.mem_range.mp hj;cases eo:owner.getD j none with
  |none=>rw[eo]at h;cases h
  |some i=>
   rw[eo]at h;cases h;exact(O.at_ j i).mp (by rw[e j hj,eo])
 ·intro h;have hj:q.1<mask+1:=Nat.lt_succ_of_le (O.le _ (bF h));refine⟨q.1,List.mem_range.mpr hj,?_⟩;have:=(O.at_ q.1 q.2).mpr h;rw[e _ hj]at this;rw[bS this];rfl
def Qj(mask:Nat)(owner:Array (Option Nat)):(nr mask owner).Pairwise λa b=>a.1<b.1:=by
 unfold nr;rw[List.pairwise_filterMap];refine List.Pairwise.imp ?_ fE;intro a b hab x hx y hy;cases ea:owner.getD a none with
 |none=>rw[ea]at hx;cases hx
 |some i=>
  cases eb:owner.getD b none with
  |none=>rw[eb]at hy;cases hy
  |some k=>
   rw[ea]at hx;rw[eb]at hy;cases hx;cases hy;exact hab
def CV{mask:Nat}(hm:Mk mask)(hs:Array Int)(hl:hs.size<=mask)(fg mv:Nat)(led plain:Bool):∃t' order,laid mask fg mv led plain hs=some (t',order)/\t'.mask=mask/\t'.led=led/\t'.plain=plain/\
  order.toList.Perm (aW hs.size)/\TOk t' (order.toList.map λi=>hs.toList.getD i 0):=by
 obtain⟨owner,L,h1,O,h3,h4⟩:=S7 hm hs hl;refine⟨_,_,by unfold laid;rw[h1];rfl,rfl,rfl,rfl,?_,?_⟩
 ·show((nr mask owner).map (·.2)).Perm _;refine(List.perm_ext_iff_of_nodup ?_ List.nodup_range).mpr λi=>?_
  ·rw[List.Nodup,nH];refine List.Pairwise.imp_of_mem ?_ (Qj mask owner);intro a b ha hb hab z;have z1:=(nt O).mp ha;have z2:=(nt O).mp hb;rw[z,z2]at z1;have:=bS z1
   lia
  ·rw[List.mem_map,List.mem_range];constructor
   ·rintro ⟨q,hq,rfl⟩
    have:=(List.getElem?_eq_some_iff.mp ((nt O).mp hq)).1
    lia
   ·intro hi;have hz:i<L.length:=by lia
    exact⟨(L[i],i),(nt O).mpr (bL hz),rfl⟩
 ·have pl:∀j,j∈(nr mask owner).map (·.1)↔j∈L:=λj=>by
   rw[List.mem_map];constructor
   ·rintro ⟨q,hq,rfl⟩;exact bF ((nt O).mp hq)
   ·intro h;obtain⟨i,hi⟩:=eX h;exact⟨(j,i),(nt O).mpr hi,rfl⟩
  have pw:((nr mask owner).map (·.1)).Pairwise (· <·):=by rw[nH];exact Qj mask owner
  have pe:((nr mask owner).map (·.1)).Perm L:=(List.perm_ext_iff_of_nodup (List.Pairwise.imp (λh=>bJ h) pw) O.nd).mpr pl;have ln:(nr mask owner).length=hs.size:=by have:=pe.length_eq;rw[aO]at this;lia
  refine⟨hm,rfl,?_,pw,λj hj=>O.le j ((pl j).mp hj),?_,?_⟩
  ·show((nr mask owner).map (·.1)).toArray.size=(((nr mask owner).map (·.2)).map λi=>hs.toList.getD i 0).length;simp
  ·show((nr mask owner).map (·.1)).toArray.size<=mask;simp
   lia
  ·show∀q∈((nr mask owner).map (·.1)).zip (((nr mask owner).map (·.2)).map λi=>hs.toList.getD i 0),∃m,d9 mask q.2 m=q.1/\∀m',m'<m->d9 mask q.2 m'∈(nr mask owner).map (·.1);intro q hq;rw[dA,List.zip_map',List.mem_map]at hq;obtain⟨x,hx,rfl⟩:=hq;have hx:=(nt O).mp hx;have hz:=(List.getElem?_eq_some_iff.mp hx).1;have hh:hs.toList[x.2]?=some (hs.toList.getD x.2 0):=by
    rw[bR,bL (by rw[aL];lia)];rfl
   obtain⟨m,m1,m2⟩:=h4 (x.1,hs.toList.getD x.2 0) (by
    have:(L.zip hs.toList)[x.2]?=some (x.1,hs.toList.getD x.2 0):=by rw[List.getElem?_zip_eq_some];exact⟨hx,hh⟩
    exact bF this)
   exact⟨m,m1,λm' z=>(pl _).mpr (m2 m' z)⟩
structure SOk(t:cY)(hs:List Int):Prop extends TOk t hs where
 loose:t.place.size * 5<t.mask * 3
def T6(fg mv:Nat)(led:Bool):SOk (.fresh fg mv led) []:=⟨Uc fg mv led,by show 0 * 5<7 * 3;decide⟩
def SOk.room1{t:cY}(S:SOk t hs):t.place.size+1<=t.mask:=by
 have:=S.loose;rcases S.mask with e|e|e<;>rw[e]at this⊢<;>lia
def Ap{t:cY}(hd:t.dummies=#[]):t.tooFull=decide (t.place.size * 5>=t.mask * 3):=by
 unfold tooFull fill;rw[hd];rfl
def SOk.relay{t:cY}{hs:Array Int}(T:TOk t hs.toList)(loose:(t.place.size - 1) * 5<t.mask * 3)(full:t.tooFull=true)(few:hs.size<=76):
  sizeAbove (grown hs.size)<=aQ/\∃t' order,t.relaid hs (grown hs.size)=some (t',order)/\t'.led=t.led/\t'.plain=t.plain/\order.toList.Perm (aW hs.size)/\SOk t' (order.toList.map λi=>hs.toList.getD i 0):=by
 rw[Ap T.dum]at full;have full:=of_decide_eq_true full;have ln:=T.len;rw[aL]at ln;have key:∀n mask',sizeAbove (grown n) - 1=mask'->n=hs.size->Mk mask'->n * 5<mask' * 3->n<=mask'->sizeAbove (grown n)<=aQ->sizeAbove (grown hs.size)<=aQ/\∃t' order,t.relaid hs (grown hs.size)=some (t',order)/\t'.led=t.led/\t'.plain=t.plain/\order.toList.Perm (aW hs.size)/\SOk t' (order.toList.map λi=>hs.toList.getD i 0):=by
  intro n mask' e en mk lo le sl;subst en;refine⟨sl,?_⟩;obtain⟨t',order,h1,h2,h3,h4,h5,h6⟩:=CV mk hs le t.finger (t.movedTo mask') t.led t.plain;refine⟨t',order,?_,h3,h4,h5,h6,?_⟩
  ·unfold relaid;rw[e];exact h1
  ·rw[h6.len,h2];rw[aO,h5.length_eq,dN];exact lo
 rcases T.mask with e|e|e
 ·rw[e]at full loose;exact key 5 31 (by decide) (by lia) (.inr (.inl rfl)) (by decide) (by decide) (by decide)
 ·rw[e]at full loose;exact key 19 127 (by decide) (by lia) (.inr (.inr rfl)) (by decide) (by decide) (by decide)
 ·rw[e]at full loose
  lia
end ST
end
section
namespace L2
open PySem PySem.Spec PyProof.Rows
def LJ:rn->Bool
 |.inl _=>true
 |.inr _=>false
def WC:NK->Bool
 |.inl k=>LJ k
 |.inr ks=>ks.all LJ
def Mp(k:bg):Bool:=k.all WC
section
variable{prog:bQ}{w:bZ}{A:cG}{E:aC->aI->Prop}{s:aI}
def P9(n:Nat)(h:(cb prog w).is k v=true):kH n v=pure (LJ k):=by
 rcases c9 h with ⟨i,t,rfl,rfl⟩|⟨x,t,rfl,rfl⟩
 ·rw[hashByValue_scannable n rfl];rfl
 ·rw[hashByValue_scannable n rfl];rfl
def BR{ks:List rn}(hk:hV (cb prog w) s.heap ks a)(h:Q (ks.all LJ) s):bA (bH prog w) A (kH (n+1) (.ref a)) Q E s:=by
 have hT:=hk.typeIs;obtain⟨o,items,n',ho,_,hd,hi⟩:=hk;unfold kH;refine aA (gL hT F.slot_tuple_hash.lookup ?_);show bA _ _ (seqItems? (.ref a)>>=_) _ _ s;refine aA (iU ho hd ?_);refine aA ?_;show bA _ _ (forIn items _ _) _ _ s;rw[<-fL];refine eC _ (λrest r s'=>r.1=none/\s'=s/\∃left,ItemsAre (cb prog w) left rest/\left.all LJ=ks.all LJ) _ ?_ ?_ _ _ ⟨rfl,rfl,ks,hi,rfl⟩
 ·rintro v rest r s' ⟨hr,rfl,left,hl,ea⟩
  cases hl with
  |@cons k v' ks' vs' hk ht=>
   rw[P9 n hk];refine aA (aB ?_);rw[cS]at ea;cases e:LJ k with
   |true=>
    simp only[dJ,Bool.false_eq_true,if_false];rw[e,lN]at ea;exact aB ⟨rfl,rfl,ks',ht,ea⟩
   |false=>
    simp only[gD,if_true];rw[e,Bool.false_and]at ea;refine aB (aB ?_);rw[<-ea]at h;exact h
 ·rintro ⟨r1,r2⟩ s' ⟨hr,rfl,left,hl,ea⟩
  simp only at hr;subst hr;cases hl;refine aB ?_;rw[<-ea]at h;exact h
def JT(hk:c7 prog w s.heap ks a)(h:Q (Mp ks) s):bA (bH prog w) A (kH 8 (.ref a)) Q E s:=by
 obtain⟨o,items,n',ho,hc,hd,hi⟩:=hk;have hT:s.TypeIs (.ref a) "tuple":=⟨o,ho,hc⟩;unfold kH;refine aA (gL hT F.slot_tuple_hash.lookup ?_);show bA _ _ (seqItems? (.ref a)>>=_) _ _ s;refine aA (iU ho hd ?_);refine aA ?_;show bA _ _ (forIn items _ _) _ _ s;rw[<-fL];refine eC _ (λrest r s'=>r.1=none/\s'=s/\∃left,NItems prog w s.heap left rest/\left.all WC=Mp ks) _ ?_ ?_ _ _ ⟨rfl,rfl,ks,hi,rfl⟩
 ·rintro v rest r s' ⟨hr,rfl,left,hl,ea⟩
  cases left with
  |nil=>cases (show v::rest=[]from hl)
  |cons k ks'=>
   obtain⟨v',t,e,h1,hl'⟩:=hl;cases e;refine aA ?_;have go:bA (bH prog w) A (kH 7 v) (λb s''=>b=WC k/\s''=s') E s':=by
    cases k with
    |inl k=>rw[P9 _ h1];exact aB ⟨rfl,rfl⟩
    |inr ys=>obtain⟨b,rfl,q⟩:=h1;exact BR q ⟨rfl,rfl⟩
   refine bU go (λb s'' ⟨e1,e2⟩=>?_) λ_ _ q=>q;subst e2;rw[cS,<-e1]at ea;cases b with
   |true=>
    simp only[dJ,Bool.false_eq_true,if_false];rw[lN]at ea;exact aB ⟨rfl,rfl,ks',hl',ea⟩
   |false=>
    simp only[gD,if_true];rw[Bool.false_and]at ea;refine aB (aB ?_);rw[<-ea]at h;exact h
 ·rintro ⟨r1,r2⟩ s' ⟨hr,rfl,left,hl,ea⟩
  simp only at hr;subst hr;cases left with
  |cons k ks'=>obtain⟨v',t,e,_⟩:=hl;cases e
  |nil=>
   refine aB ?_;rw[<-ea]at h;exact h
def Qp(n:Nat)(h:(cb prog w).is k v=true):gW n v=pure false:=by
 rcases c9 h with ⟨i,t,rfl,rfl⟩|⟨x,t,rfl,rfl⟩<;>(cases n<;>rfl)
def DZ(hk:hV (cb prog w) s.heap ks a)(h:Q false s):bA (bH prog w) A (gW (n+1) (.ref a)) Q E s:=by
 have hT:=hk.typeIs;obtain⟨o,items,n',ho,_,hd,hi⟩:=hk;unfold gW;refine aA (jB hT ?_);show bA _ _ ((if("tuple"=="tuple")=true then pure true else isSubtype (.type "tuple") (.type "tuple"))>>=_) _ _ s;rw[aG (beq_self_eq_true _)];refine aA (aB ?_);simp only[dJ,Bool.false_eq_true,if_false];refine aA (iU ho hd ?_);dsimp only;refine aA ?_;show bA _ _ (forIn items _ _) _ _ s;rw[<-fL];refine eC _ (λrest r s'=>r.1=none/\s'=s/\∃left,ItemsAre (cb prog w) left rest) _ ?_ ?_ _ _ ⟨rfl,rfl,ks,hi⟩
 ·rintro v rest r s' ⟨hr,rfl,left,hl⟩
  cases hl with
  |@cons k v' ks' vs' hk ht=>
   rw[Qp n hk];refine aA (aB ?_);simp only[Bool.false_eq_true,if_false];exact aB ⟨rfl,rfl,ks',ht⟩
 ·rintro ⟨r1,r2⟩ s' ⟨hr,rfl,left,hl⟩
  simp only at hr;subst hr;exact aB h
def Xg(hk:c7 prog w s.heap ks a)(h:Q false s):bA (bH prog w) A (gW 8 (.ref a)) Q E s:=by
 obtain⟨o,items,n',ho,hc,hd,hi⟩:=hk;have hT:s.TypeIs (.ref a) "tuple":=⟨o,ho,hc⟩;unfold gW;refine aA (jB hT ?_);show bA _ _ ((if("tuple"=="tuple")=true then pure true else isSubtype (.type "tuple") (.type "tuple"))>>=_) _ _ s;rw[aG (beq_self_eq_true _)];refine aA (aB ?_);simp only[dJ,Bool.false_eq_true,if_false];refine aA (iU ho hd ?_);dsimp only;refine aA ?_;show bA _ _ (forIn items _ _) _ _ s;rw[<-fL];refine eC _ (λrest r s'=>r.1=none/\s'=s/\∃left,NItems prog w s.heap left rest) _ ?_ ?_ _ _ ⟨rfl,rfl,ks,hi⟩
 ·rintro v rest r s' ⟨hr,rfl,left,hl⟩
  cases left with
  |nil=>cases (show v::rest=[]from hl)
  |cons k ks'=>
   obtain⟨v',t,e,h1,hl'⟩:=hl;cases e;refine aA ?_;have go:bA (bH prog w) A (gW 7 v) (λb s''=>b=false/\s''=s') E s':=by
    cases k with
    |inl k=>rw[Qp _ h1];exact aB ⟨rfl,rfl⟩
    |inr ys=>obtain⟨b,rfl,q⟩:=h1;exact DZ q ⟨rfl,rfl⟩
   refine bU go (λb s'' ⟨e1,e2⟩=>?_) λ_ _ q=>q;subst e1 e2;simp only[Bool.false_eq_true,if_false];exact aB ⟨rfl,rfl,ks',hl'⟩
 ·rintro ⟨r1,r2⟩ s' ⟨hr,rfl,left,hl⟩
  simp only at hr;subst hr;exact aB h
def OX(hk:c7 prog w s.heap k b)(hy:∀y∈ys,∃c k',y=.ref c/\c7 prog w s.heap k' c)(h:Q false s):bA (bH prog w) A (searchCouldBeSeen (.ref b) ys) Q E s:=by
 unfold searchCouldBeSeen;refine aA ?_;refine eC _ (λrest r s'=>r.1=none/\s'=s/\∀y∈rest,∃c k',y=.ref c/\c7 prog w s.heap k' c) _ ?_ ?_ _ _ ⟨rfl,rfl,hy⟩
 ·rintro v rest r s' ⟨hr,rfl,hl⟩
  obtain⟨c,k',rfl,hc⟩:=hl v aN;have tl:∀y∈rest,∃c k',y=.ref c/\c7 prog w s'.heap k' c:=λy hy=>hl y (aK _ hy);dsimp only;show bA _ _ (if((b==c)||(false && false))=true then _ else _) _ _ _;split
  ·exact aB ⟨rfl,rfl,tl⟩
  ·refine aA (Dn hk ?_);simp only[dJ,Bool.false_eq_true,if_false];refine aA (Dn hc ?_);simp only[dJ,Bool.false_eq_true,if_false];refine aA (Xg hk ?_);simp only[Bool.false_eq_true,if_false];refine aA (Xg hc ?_);simp only[Bool.false_eq_true,if_false];exact aB ⟨rfl,rfl,tl⟩
 ·rintro ⟨r1,r2⟩ s' ⟨hr,rfl,hl⟩
  simp only at hr;subst hr;exact aB h
def TQ(prog:bQ)(w:bZ)(h:Heap)(e:Int×aC)(k:bg):Prop:=e.1=(au prog w).hash k/\∃b,e.2=.ref b/\c7 prog w h k b
def ElsK(prog:bQ)(w:bZ)(h:Heap):List (Int×aC)->List bg->Prop
 |[],ks=>ks=[]
 |e::es,ks=>∃k r,ks=k::r/\TQ prog w h e k/\ElsK prog w h es r
theorem ElsK.len:∀{es:List (Int×aC)}{ks:List bg},ElsK prog w h es ks->es.length=ks.length
 |[],ks,e=>by rw[show ks=[]from e];rfl
 |_::_,_,⟨k,r,e,_,t⟩=>by rw[e,aE,aE,t.len]
theorem ElsK.get:∀{es:List (Int×aC)}{ks:List bg}{i:Nat}{e:Int×aC},ElsK prog w h es ks->es[i]?=some e->∃k,ks[i]?=some k/\TQ prog w h e k
 |[],_,_,_,_,q=>by simp at q
 |_::_,_,0,e,⟨k,r,e1,h1,t⟩,q=>by subst e1;simp at q;subst q;exact⟨k,rfl,h1⟩
 |_::_,_,i+1,e,⟨k,r,e1,h1,t⟩,q=>by
  subst e1;obtain⟨k',q1,q2⟩:=ElsK.get (i:=i) t (by simpa using q);exact⟨k',by simpa using q1,q2⟩
structure SetK(prog:bQ)(w:bZ)(h:Heap)(a:Addr)(ks:List bg)(es:Array (Int×aC))(ep:Nat)(t:cY):Prop where
 at_:h.get? a=some {cls:=.type "set",dict:=none,data:=.set es ep t}
 tab:ST.SOk t (es.toList.map (·.1))
 els:ElsK prog w h es.toList ks
 nd:ks.Nodup
theorem SetK.fits{es:Array (Int×aC)}{t:cY}(S:SetK prog w h a ks es ep t):t.fits es.size=true:=by
 obtain⟨h1,h2⟩:=S.tab.toTOk.fits;unfold iG;rw[aF];exact⟨by rw[h1];simp,decide_eq_true h2⟩
def X7{es:Array (Int×aC)}{f:Nat->Int}{t:cY}{h:Int}{p:SetTable.Probe}(hf:∀i,f i=(es[i]?.map (·.1)).getD 0):t.probe f h p=t.probe (λi=>(es[i]?.map (·.1)).getD 0) h p:=by
 rw[show f=λi=>(es[i]?.map (·.1)).getD 0 from funext hf]
def Xf{t:cY}(h:ST.Mk t.mask):t.gaveWay=false:=by
 unfold SetTable.gaveWay;rcases h with e|e|e<;>rw[e]<;>rfl
end
section
variable{prog:bQ}{w:bZ}{A:cG}{E:aC->aI->Prop}{s:aI}{a b:Addr}{ks:List bg}{es:Array (Int×aC)}{ep:Nat}{t:cY}{k:bg}
def Ms(t:cY)(ks:List bg)(k:bg)(h:Int)(m:Nat):Prop:=∀m',m'<m->∃(i:Nat) (k':bg),t.place[i]?=some (ST.d9 t.mask h m')/\ks[i]?=some k'/\k'≠k
def SetK.at_slot(S:SetK prog w s.heap a ks es ep t){i j:Nat}(e:t.place[i]?=some j):∃v k',es[i]?=some v/\ks[i]?=some k'/\TQ prog w s.heap v k':=by
 have hi:i<es.size:=by
  have:=(Array.getElem?_eq_some_iff.mp e).1;have l:=S.tab.len;simp at l
  lia
 have e1:es.toList[i]?=some es[i]:=by rw[bO];exact bP hi
 obtain⟨k',q1,q2⟩:=S.els.get e1;exact⟨es[i],k',by rw[<-bO];exact e1,q1,q2⟩
def T2(hr:(au prog w).room A)(S:SetK prog w s.heap a ks es ep t)(hk:c7 prog w s.heap k b){Q:SetFound->aI->Prop}(h1:k∈ks->Q (.there none) s)
  (h2:∀m,ST.d9 t.mask ((au prog w).hash k) m∉t.place.toList->Ms t ks k ((au prog w).hash k) m->Q (.free (ST.d9 t.mask ((au prog w).hash k) m) false) s)
  (M:Nat) (hM:ST.d9 t.mask ((au prog w).hash k) M∉t.place.toList):∀(d fuel m:Nat)(stand:Option SetTable.Probe),M - m<d->m<=M->d<=fuel->stand.getD (t.probeStart ((au prog w).hash k))=ST.it t.mask m (ST.Uq t.mask ((au prog w).hash k))->
   Ms t ks k ((au prog w).hash k) m->bA (bH prog w) A (setSearchFrom a (.ref b) ((au prog w).hash k) true fuel stand) Q E s:=by
 generalize hh:(au prog w).hash k=hsh at *;intro d;induction d with
 |zero=>
  intro fuel m stand e1
  lia
 |succ d ih=>
  intro fuel m stand e1 e2 e3 e4 ps;obtain⟨fuel,rfl⟩:∃f,fuel=f+1:=⟨fuel - 1,by lia⟩;unfold setSearchFrom;refine aA (cW S.at_ rfl S.fits ?_);dsimp only;rw[Xf S.tab.mask];simp only[Bool.false_eq_true,if_false];rw[e4,X7 (es:=es)]
  ·obtain⟨m1,q1,q2,q3⟩:=S.tab.toTOk.probe (λi=>(es[i]?.map (·.1)).getD 0) hsh m;have mem:∀{i j:Nat},t.place[i]?=some j->j∈t.place.toList:=λe=>by
    rw[<-bO]at e;exact bF e
   have le:m1<=M:=by
    rcases fY M m1 with z|z
    ·obtain⟨i,z1,_⟩:=q2 M e2 z;exact absurd (mem z1) hM
    ·exact z
   have ps1:Ms t ks k hsh m1:=λm' hm=>by
    rcases fY m' m with z|z
    ·exact ps m' z
    ·obtain⟨i,z1,z2⟩:=q2 m' z hm;obtain⟨v,k',y1,y2,y3,y4⟩:=S.at_slot z1;refine⟨i,k',z1,y2,λz3=>z2 ?_⟩;subst z3;show(es[i]?.map (·.1)).getD 0=hsh;rw[y1];show v.1=hsh;rw[y3,hh]
   rcases q3 with ⟨z1,z2⟩|⟨i,z1,z2,z3⟩
   ·rw[z2];exact aB (h2 m1 z1 ps1)
   ·rw[z3];obtain⟨v,k',y1,y2,y3,c,y4,y5⟩:=S.at_slot z1;obtain⟨vh,vv⟩:=v;dsimp only at y3 y4;subst y4;have lt:m1<M:=by
     rcases fY m1 M with z|z
     ·exact z
     ·have:m1=M:=by lia
      subst this;exact absurd (mem z1) hM
    have sl:=ST.F9 S.tab.rise z1;have sm:t.sameMemory t.moves t.mask=some true:=by unfold SetTable.sameMemory;rw[aG (beq_self_eq_true _)]
    have ts:∀y∈(es.filter λx=>x.fst==hsh).toList.map (λx=>x.snd),∃c k',y=.ref c/\c7 prog w s.heap k' c:=λy hy=>by
     obtain⟨x,hx,rfl⟩:=List.mem_map.mp hy;have hx:x∈es:=(show x∈es/\x.fst=hsh by simpa using hx).1;obtain⟨i,hi⟩:=eX (show x∈es.toList by simpa using hx);obtain⟨k'',_,_,c',e5,e6⟩:=S.els.get hi;exact⟨c',k'',e5,e6⟩
    dsimp only;cases hl:t.led with
    |true=>
     simp only[dJ,Bool.false_eq_true,if_false];rw[y1];dsimp only;refine aA (cM ((au prog w).eqBool hr y5 hk ?_));refine aA (cW S.at_ rfl S.fits ?_);dsimp only
     by_cases ek:k'=k
     ·subst ek;simp only[decide_true,nM,if_true];exact aB (h1 (bF y2))
     ·simp only[ek,decide_false,hJ,Bool.false_eq_true,if_false];rw[sm];simp only[if_true];rw[sl];dsimp only;rw[y1];dsimp only;refine aA (wpAny_isSame_ref_self ?_);simp only[if_true];refine aA (aB ?_);dsimp only;refine ih fuel (m1+1) _ (by lia) (by lia) (by lia) rfl λm' hm=>?_;rcases fY m' m1 with z|z
      ·exact ps1 m' z
      ·have:m'=m1:=by lia
       subst this;exact⟨i,k',z1,y2,ek⟩
    |false=>
     simp only[gD,if_true];refine aA (OX hk ts ?_);simp only[Bool.false_eq_true,if_false];rw[y1];dsimp only;refine aA (cM ((au prog w).eqBool hr y5 hk ?_));refine aA (cW S.at_ rfl S.fits ?_);dsimp only
     by_cases ek:k'=k
     ·subst ek;simp only[decide_true,nM,if_true];exact aB (h1 (bF y2))
     ·simp only[ek,decide_false,hJ,Bool.false_eq_true,if_false];rw[sm];simp only[if_true];rw[sl];dsimp only;rw[y1];dsimp only;refine aA (wpAny_isSame_ref_self ?_);simp only[if_true];refine aA (aB ?_);dsimp only;refine ih fuel (m1+1) _ (by lia) (by lia) (by lia) rfl λm' hm=>?_;rcases fY m' m1 with z|z
      ·exact ps1 m' z
      ·have:m'=m1:=by lia
       subst this;exact⟨i,k',z1,y2,ek⟩
  ·intro i;rfl
def Nm(S:SetK prog w s.heap a ks es ep t){i:Nat}{k:bg}(h:ks[i]?=some k):∃j,t.place[i]?=some j/\(j,(au prog w).hash k)∈t.place.toList.zip (es.toList.map (·.1)):=by
 have hi:=(List.getElem?_eq_some_iff.mp h).1;have l1:=S.els.len;have l2:=S.tab.len;rw[aO]at l2;have hp:i<t.place.size:=by lia
 obtain⟨v,k',y1,y2,y3,_⟩:=S.at_slot (i:=i) (bP hp);rw[h]at y2;cases y2;refine⟨t.place[i],bP hp,?_⟩;have:(t.place.toList.zip (es.toList.map (·.1)))[i]?=some (t.place[i],(au prog w).hash k):=by
  rw[List.getElem?_zip_eq_some];refine⟨by rw[bO];exact bP hp,?_⟩;rw[bM,bO,y1];show some v.1=_;rw[y3]
 exact bF this
def Y0(hr:(au prog w).room A)(S:SetK prog w s.heap a ks es ep t)(hk:c7 prog w s.heap k b){Q:SetFound->aI->Prop}(h1:k∈ks->Q (.there none) s)
  (h2:k∉ks->∀m,ST.d9 t.mask ((au prog w).hash k) m∉t.place.toList->(∀m',m'<m->ST.d9 t.mask ((au prog w).hash k) m'∈t.place.toList)->Q (.free (ST.d9 t.mask ((au prog w).hash k) m) false) s):
  bA (bH prog w) A (setSearch a (.ref b) ((au prog w).hash k) true) Q E s:=by
 obtain⟨M,M1,M2⟩:=S.tab.toTOk.first ((au prog w).hash k)
 have:=ST.Zy S.tab.mask;refine T2 hr S hk h1 (λm z1 z2=>?_) M M2 100000 100000 0 none (by lia) (by lia) (by lia) rfl (λm' hm=>by lia);have mem:∀{i j:Nat},t.place[i]?=some j->j∈t.place.toList:=λe=>by
  rw[<-bO]at e;exact bF e
 refine h2 (λz=>?_) m z1 λm' hm=>?_
 ·obtain⟨i0,e0⟩:=eX z;obtain⟨j,j1,j2⟩:=Nm S e0;obtain⟨m0,r1,r2⟩:=S.tab.reach _ j2;dsimp only at r1 r2;have lt:m0<m:=by
   rcases iR m0 m with y|y|y
   ·exact y
   ·subst y;rw[r1]at z1;exact absurd (mem j1) z1
   ·exact absurd (r2 m y) z1
  obtain⟨i,k',y1,y2,y3⟩:=z2 m0 lt;rw[r1]at y1;have:=S.tab.rise.inj y1 j1;subst this;rw[e0]at y2;cases y2;exact y3 rfl
 ·obtain⟨i,k',y1,_⟩:=z2 m' hm;exact mem y1
end
section
variable{prog:bQ}{w:bZ}{A:cG}{E:aC->aI->Prop}{s:aI}{a b:Addr}{ks:List bg}{es:Array (Int×aC)}{ep:Nat}{t:cY}{k:bg}
def Ue{h h':Heap}{d:Addr}{o:Obj}{es ep tt}(ho:h.get? d=some o)(hd:o.data=.set es ep tt)(hs:cK d h h'){ks:List rn}{b:Addr}(q:hV (cb prog w) h ks b):hV (cb prog w) h' ks b:=by
 obtain⟨o',items,n,ho',hc,hd',hi⟩:=q;refine⟨o',items,n,(hs.2 _ ?_).trans ho',hc,hd',hi⟩
 rintro rfl
 obtain rfl:=bS (ho'.symm.trans ho);rw[hd]at hd';exact nomatch hd'
def Xe{h h':Heap}{o:Obj}{es ep tt}(ho:h.get? d=some o)(hd:o.data=.set es ep tt)(hs:cK d h h'):∀{k:NK}{v:aC},Az prog w h k v->Az prog w h' k v
 |.inl k,v,e=>e
 |.inr ks,v,⟨b,e,q⟩=>⟨b,e,Ue ho hd hs q⟩
theorem Fy{h h':Heap}{o:Obj}{es ep tt}(ho:h.get? d=some o)(hd:o.data=.set es ep tt)(hs:cK d h h'):∀{ks:bg}{vs:List aC},NItems prog w h ks vs->NItems prog w h' ks vs
 |[],_,e=>e
 |_::_,_,⟨v,t,e,h1,h2⟩=>⟨v,t,e,Xe ho hd hs h1,Fy ho hd hs h2⟩
def S0{h h':Heap}{d:Addr}{o:Obj}{es ep tt}(ho:h.get? d=some o)(hd:o.data=.set es ep tt)(hs:cK d h h'){ks:bg}{b:Addr}(q:c7 prog w h ks b):c7 prog w h' ks b:=by
 obtain⟨o',items,n,ho',hc,hd',hi⟩:=q;refine⟨o',items,n,(hs.2 _ ?_).trans ho',hc,hd',Fy ho hd hs hi⟩
 rintro rfl
 obtain rfl:=bS (ho'.symm.trans ho);rw[hd]at hd';exact nomatch hd'
theorem yw{h h':Heap}{o:Obj}{es ep tt}(ho:h.get? d=some o)(hd:o.data=.set es ep tt)(hs:cK d h h'):∀{l:List (Int×aC)}{ks:List bg},ElsK prog w h l ks->ElsK prog w h' l ks
 |[],_,e=>e
 |_::_,_,⟨k,r,e,⟨e1,b,e2,e3⟩,h2⟩=>⟨k,r,e,⟨e1,b,e2,S0 ho hd hs e3⟩,yw ho hd hs h2⟩
theorem ElsK.app:∀{l l':List (Int×aC)}{ks ks':List bg},ElsK prog w h l ks->ElsK prog w h l' ks'->ElsK prog w h (l++l') (ks++ks')
 |[],_,ks,_,e,q=>by rw[show ks=[]from e];exact q
 |_::_,_,_,_,⟨k,r,e,h1,h2⟩,q=>by subst e;exact⟨k,r++_,rfl,h1,h2.app q⟩
theorem ElsK.take:∀{l:List (Int×aC)}{ks:List bg}(n:Nat),ElsK prog w h l ks->ElsK prog w h (l.take n) (ks.take n)
 |_,_,0,_=>by simp[ElsK]
 |[],ks,n+1,e=>by rw[show ks=[]from e];simp[ElsK]
 |_::_,_,n+1,⟨k,r,e,h1,h2⟩=>by subst e;exact⟨k,r.take n,rfl,h1,h2.take n⟩
theorem ElsK.drop:∀{l:List (Int×aC)}{ks:List bg}(n:Nat),ElsK prog w h l ks->ElsK prog w h (l.drop n) (ks.drop n)
 |_,_,0,e=>e
 |[],ks,n+1,e=>by rw[show ks=[]from e];simp[ElsK]
 |_::_,_,n+1,⟨k,r,e,h1,h2⟩=>by subst e;exact h2.drop n
theorem ElsK.pick{l:List (Int×aC)}{ks:List bg}(q:ElsK prog w h l ks):∀(order:List Nat),(∀i∈order,i<l.length)->ElsK prog w h (order.map λi=>l.getD i (0,.none)) (order.map λi=>ks.getD i [])
 |[],_=>rfl
 |i::r,hb=>by
  have hi:=hb i aN;have e:l[i]?=some l[i]:=bL hi;obtain⟨k,q1,q2⟩:=q.get e;refine⟨ks.getD i [],r.map _,rfl,?_,q.pick r λj hj=>hb j (aK _ hj)⟩;show TQ prog w h (l.getD i (0,cE)) (ks.getD i []);rw[bR,bR,e,q1];exact q2
def X0{l:List α}:(aW l.length).map (λi=>l.getD i d)=l:=by
 apply nF;intro i;rw[bM];rcases fY i l.length with h|h
 ·rw[gZ h,bL h];simp[bR,h]
 ·rw[eM (by simpa using h),eM h];rfl
def Dh{l:List α}{order:List Nat}(h:order.Perm (aW l.length)):(order.map λi=>l.getD i d).Perm l:=by
 have:=h.map λi=>l.getD i d;rw[X0]at this;exact this
theorem V5{l:List α}:∀{order:List Nat},(∀i∈order,i<l.length)->order.filterMap (λi=>l[i]?)=order.map λi=>l.getD i d
 |[],_=>rfl
 |i::r,h=>by
  have hi:=h i aN;rw[fF,bL hi,aV,V5 (d:=d) λj hj=>h j (aK _ hj)];simp[bR,hi]
def EC{h0:Heap}(S:h0.get? a=some {cls:=.type "set",dict:=none,data:=.set es ep t})(hs0:s.heap=h0)(T:ST.TOk t (es.toList.map (·.1)))(el:ElsK prog w h0 es.toList ks)(nd:ks.Nodup)(loose:(t.place.size - 1) * 5<t.mask * 3)(full:t.tooFull=true)(few:es.size<=76)
  (h:∀h' ks' es' ep' t',cK a s.heap h'->SetK prog w h' a ks' es' ep' t'->ks'.Perm ks->(∀hh,ElsK prog w hh es.toList ks->ElsK prog w hh es'.toList ks')->t'.plain=t.plain->t'.led=t.led->Q () {s with heap:=h'}):bA (bH prog w) A (setRelay a (SetTable.grown es.size)) Q E s:=by
 subst hs0;have fits:t.fits es.size=true:=by
  obtain⟨h1,h2⟩:=T.fits;unfold iG;rw[aF];exact⟨by rw[h1];simp,decide_eq_true h2⟩
 have eh:(es.map (·.1)).toList=es.toList.map (·.1):=by simp
 have sh:(es.map (·.1)).size=es.size:=by simp
 obtain⟨r1,t',order,r2,r3,r4,r5,r6⟩:=ST.SOk.relay (t:=t) (hs:=es.map (·.1)) (by rw[eh];exact T) loose full (by rw[sh];exact few);rw[sh]at r1 r2 r5;have ob:∀i∈order.toList,i<es.toList.length:=λi hi=>by
  have:=List.mem_range.mp (r5.mem_iff.mp hi);rw[aL];exact this
 have e2:(order.filterMap (es[·]?)).toList=order.toList.map λi=>es.toList.getD i (0,.none):=by
  rw[Array.toList_filterMap];have:(λ(i:Nat)=>es[i]?)=λ(i:Nat)=>es.toList[i]?:=by funext i;rw[bO]
  rw[this];exact V5 ob
 have sz:(order.filterMap (es[·]?)).size=es.size:=by
  rw[<-aL,e2,aO,r5.length_eq,dN]
 unfold setRelay;refine aA (cW S rfl fits ?_);dsimp only;rw[aJ (Nat.not_lt.mpr r1),r2];refine aA (lR (a:=(order.filterMap (es[·]?),t')) ?_ ?_)
 ·show(if((order.filterMap (es[·]?)).size !=es.size)=true then _ else _)=_;rw[aJ (by rw[sz];simp)]
 ·dsimp only;have hz:(order.filterMap (es[·]?)).size<=aQ:=by rw[sz,cD];lia
  refine kP S rfl ?_ hz;have sb:=cH s.heap a (gI (order.filterMap (es[·]?)) t');have g1:(s.heap.update a (gI (order.filterMap (es[·]?)) t')).get? a=some {cls:=.type "set",dict:=none,data:=.set (order.filterMap (es[·]?)) (ep+1) t'}:=cN (gI (order.filterMap (es[·]?)) t') S rfl;have ll:=el.len;refine h _ (order.toList.map λi=>ks.getD i []) _ _ _ sb ⟨g1,?_,?_,?_⟩ ?_ (λhh z=>by rw[e2];exact z.pick _ ob) r4 r3
  ·have:(order.filterMap (es[·]?)).toList.map (·.1)=order.toList.map λi=>(es.map (·.1)).toList.getD i 0:=by
    rw[e2,dA];refine fU λi hi=>?_;have:=ob i hi;rw[eh];show(es.toList.getD i (0,.none)).1=(es.toList.map (·.1)).getD i 0;rw[bR,bR,bM,bL this];rfl
   rw[this];exact r6
  ·rw[e2];exact yw S rfl sb (el.pick _ ob)
  ·have p:=Dh (l:=ks) (d:=[]) (order:=order.toList) (by rw[<-ll,aL];exact r5);exact p.nodup_iff.mpr nd
  ·exact Dh (by rw[<-ll,aL];exact r5)
def xu{l:List α}:(l.take p++x::l.drop p).Perm (x::l):=by
 have:=List.perm_middle (a:=x) (l₁:=l.take p) (l₂:=l.drop p);rw[lA]at this;exact this
def GN(hr:(au prog w).room A)(S:SetK prog w s.heap a ks es ep t)(few:k∉ks->ks.length<76)(hk:c7 prog w s.heap k b)
  (h1:k∈ks->Q false s)
  (h2:k∉ks->∀h' ks' es' ep' t',cK a s.heap h'->SetK prog w h' a ks' es' ep' t'->ks'.Perm (k::ks)->(∀hh,ElsK prog w hh es.toList ks->c7 prog w hh k b->ElsK prog w hh es'.toList ks')->t'.plain=(t.plain && Mp k)->t'.led=t.led->Q true {s with heap:=h'}):
  bA (bH prog w) A (oM a (.ref b) ((au prog w).hash k)) Q E s:=by
 unfold oM setAddHashedIn;refine cM (aA (cW S.at_ rfl S.fits ?_));dsimp only;have bs:byScan (.ref b) es=false:=rfl;rw[bs];simp only[Bool.false_eq_true,if_false];refine aA (Y0 hr S hk (λz=>?_) λz m m1 m2=>?_)
 ·exact aB (h1 z)
 dsimp only;refine aA (cW S.at_ rfl S.fits ?_);dsimp only;have few:=few z;obtain⟨p,p1,p2,p3,p4⟩:=S.tab.toTOk.put m1 m2 S.tab.room1;rw[p2];generalize (t.put (ST.d9 t.mask ((au prog w).hash k) m)).1=t1 at p3 p4;have q1:t1.plain=t.plain:=by rw[p4]
 have q2:t1.led=t.led:=by rw[p4]
 have q3:t1.mask=t.mask:=by rw[p4]
 have l1:=S.els.len;have l2:=S.tab.len;rw[aO]at l2;have il:(dO es p ((au prog w).hash k,cQ b)).toList=es.toList.take p++((au prog w).hash k,cQ b)::es.toList.drop p:=ST.f6 _ _ _;have sz:(dO es p ((au prog w).hash k,cQ b)).size=es.size+1:=by
  rw[<-aL,il,xu.length_eq,aE,aL]
 have hz:(dO es p ((au prog w).hash k,cQ b)).size<=aQ:=by rw[sz,cD];rw[aL]at l1;lia
 have hh:(dO es p ((au prog w).hash k,cQ b)).toList.map (·.1)=(es.toList.map (·.1)).take p++(au prog w).hash k::(es.toList.map (·.1)).drop p:=by
  rw[il,dD,aV,jN,jO]
 rw[<-hh]at p3;generalize dO es p ((au prog w).hash k,cQ b)=es1 at il sz hz hh p3;have fl:∀(F:Bool->Sem Bool),(∀bv,(t1.plain && bv)=(t.plain && Mp k)->bA (bH prog w) A (F bv) Q E s)->bA (bH prog w) A (if t1.plain=true then kH 8 (.ref b)>>=F else(pure true:Sem Bool)>>=F) Q E s:=λF hR=>by
  split
  ·rename_i c;exact aA (JT hk (hR _ (by rw[q1])))
  ·rename_i c;have c:t1.plain=false:=by simpa using c
   refine aA (aB (hR true ?_));rw[q1]at c;rw[q1,c];rfl
 refine fl _ λbv ebv=>?_;have⟨t2,et2,r1,r2,r3,r4⟩:∃t2,(if bv=true then t1 else{t1 with plain:=false})=t2/\ST.TOk t2 (es1.toList.map (·.1))/\t2.plain=(t.plain && Mp k)/\t2.led=t.led/\t2.mask=t.mask:=by
  cases bv with
  |true=>exact⟨t1,aG rfl,p3,by rw[<-ebv,Bool.and_true],q2,q3⟩
  |false=>exact⟨{t1 with plain:=false},aJ (by decide),⟨p3.mask,p3.dum,p3.len,p3.rise,p3.le,p3.room,p3.reach⟩,by rw[<-ebv,hJ],q2,q3⟩
 rw[et2];refine aA (kP S.at_ rfl ?_ hz);have g1:(s.heap.update a (gI es1 t2)).get? a=some {cls:=.type "set",dict:=none,data:=.set es1 (ep+1) t2}:=cN (gI es1 t2) S.at_ rfl;have sb:=cH s.heap a (gI es1 t2);have el1:ElsK prog w (s.heap.update a (gI es1 t2)) es1.toList (ks.take p++k::ks.drop p):=by
  rw[il];refine yw S.at_ rfl sb ((S.els.take p).app ⟨k,_,rfl,⟨rfl,b,rfl,hk⟩,S.els.drop p⟩)
 have el2:∀hh,ElsK prog w hh es.toList ks->c7 prog w hh k b->ElsK prog w hh es1.toList (ks.take p++k::ks.drop p):=λhh z1 z2=>by
  rw[il];exact(z1.take p).app ⟨k,_,rfl,⟨rfl,b,rfl,z2⟩,z1.drop p⟩
 have nd1:(ks.take p++k::ks.drop p).Nodup:=xu.nodup_iff.mpr (List.nodup_cons.mpr ⟨z,S.nd⟩);have ps:t2.place.size=t.place.size+1:=by
  have:=r1.len;rw[aO,aL]at this;rw[aL]at l2
  lia
 have lo:=S.tab.loose
 by_cases full:t2.tooFull=true
 ·rw[full];simp only[gD,nM,if_true];rw[<-sz];refine aA (EC (h0:=s.heap.update a (gI es1 t2)) g1 rfl r1 el1 nd1 (by rw[ps,r4];exact lo) full (by rw[sz];rw[aL]at l1;lia) λh' ks' es' ep' t' sb' S' pp ee e1 e2=>?_);refine aB (h2 z h' ks' es' ep' t' (sb.trans sb') S' (pp.trans xu) (λhh z1 z2=>ee hh (el2 hh z1 z2)) (e1.trans r2) (e2.trans r3))
 ·have full':t2.tooFull=false:=by simpa using full
  rw[full'];simp only[gD,hJ,Bool.false_eq_true,if_false];have lo2:t2.place.size * 5<t2.mask * 3:=by
   rw[ST.Ap r1.dum]at full';have:=of_decide_eq_false full'
   lia
  exact aB (h2 z _ _ _ _ _ sb ⟨g1,⟨r1,lo2⟩,el1,nd1⟩ xu el2 r2 r3)
end
def Cf(T:List bg)(k:bg):Bool:=T.any λx=>decide (x=k)
def xk:Cf T k=true↔k∈T:=by
 unfold Cf;rw[oB];constructor
 ·rintro ⟨x,hx,e⟩;rw[<-of_decide_eq_true e];exact hx
 ·intro h;exact⟨k,h,decide_eq_true rfl⟩
def s9(T:List bg)(k:bg):List bg:=if Cf T k then T else T++[k]
def j7(kz:List bg):List bg:=kz.foldl s9 []
def BO(T:List bg)(k:bg):T.length<=(s9 T k).length:=by
 unfold s9;split
 ·exact aH _
 ·simp
theorem P4:∀(kz:List bg)(T:List bg),T.length<=(kz.foldl s9 T).length
 |[],T=>aH _
 |k::r,T=>cB (BO T k) (P4 r _)
section
variable{prog:bQ}{w:bZ}
def Zu{h h':Heap}(m:∀c o,h.get? c=some o->h'.get? c=some o)(q:hV (cb prog w) h ks b):hV (cb prog w) h' ks b:=by
 obtain⟨o',items,n,ho',hc,hd',hi⟩:=q;exact⟨o',items,n,m _ _ ho',hc,hd',hi⟩
def CD{h h':Heap}(m:∀c o,h.get? c=some o->h'.get? c=some o):∀{k:NK}{v:aC},Az prog w h k v->Az prog w h' k v
 |.inl k,v,e=>e
 |.inr ks,v,⟨b,e,q⟩=>⟨b,e,Zu m q⟩
theorem K7{h h':Heap}(m:∀c o,h.get? c=some o->h'.get? c=some o):∀{ks:bg}{vs:List aC},NItems prog w h ks vs->NItems prog w h' ks vs
 |[],_,e=>e
 |_::_,_,⟨v,t,e,h1,h2⟩=>⟨v,t,e,CD m h1,K7 m h2⟩
def xm{h h':Heap}(m:∀c o,h.get? c=some o->h'.get? c=some o)(q:c7 prog w h ks b):c7 prog w h' ks b:=by
 obtain⟨o',items,n,ho',hc,hd',hi⟩:=q;exact⟨o',items,n,m _ _ ho',hc,hd',K7 m hi⟩
def Ro(prog:bQ)(w:bZ)(h0 h:Heap)(a:Addr)(T:List bg):Prop:=∃ks es ep t,h.get? a=some {cls:=.type "set",dict:=none,data:=.set es ep t}/\ST.SOk t (es.toList.map (·.1))/\ElsK prog w h0 es.toList ks/\ks.Nodup/\ks.Perm T/\t.led=Pu.i9 w/\t.plain=T.all Mp
theorem J7{h h':Heap}(m:∀c o,h.get? c=some o->h'.get? c=some o):∀{l:List (Int×aC)}{ks:List bg},ElsK prog w h l ks->ElsK prog w h' l ks
 |[],_,e=>e
 |_::_,_,⟨k,r,e,⟨e1,b,e2,e3⟩,h2⟩=>⟨k,r,e,⟨e1,b,e2,xm m e3⟩,J7 m h2⟩
end
section
variable{prog:bQ}{w:bZ}{A:cG}{R:Result->aI->Prop}{I:Addr}{fp wr:List Addr}{P:Nat->aC->Prop}{St:Nat->Heap->Prop}{kz:List bg}{h0:Heap}
def Uk(W:Walks prog w A.in1 I fp wr kz.length P St)(hu:(au prog w).room A.in1)(a:Addr)(ha:a∉fp)(hb:∀c o,h0.get? c=some o->c≠a/\c∉wr)(hP:∀i v,P i v->∃k b,kz[i]?=some k/\v=.ref b/\c7 prog w h0 k b):
  ∀(rest:List bg)(i:Nat)(s:aI)(T:List bg),kz.drop i=rest->i<=kz.length->St i s.heap->(∀c o,h0.get? c=some o->s.heap.get? c=some o)->Ro prog w h0 s.heap a T->(rest.foldl s9 T).length<=76->
   (∀h' tk,(∀b o,b≠a->b∉wr->s.heap.get? b=some o->h'.get? b=some o)->Ro prog w h0 h' a (rest.foldl s9 T)->R (.ok (.ret .none)) {s with heap:=h',toks:=tk})->
   iO (bH prog w) A (.builtin "set.update.loop" ⟨[.ref a,.ref I],[]⟩) R s:=by
 have haw:a∉wr:=λz=>ha (W.sub _ z);intro rest;induction rest with
 |nil=>
  intro i s T hd hi st h0s hT hl hR;have hin:i=kz.length:=by
   have:=congrArg gS hd;rw[dH,dC]at this
   lia
  subst hin;refine eB eK ?_;rw[dY cC _];show bA _ A.in1 (jV (.ref I)>>=_) _ _ s;refine aA (W.done s _ _ st λh' tk hk=>?_);show bA _ A.in1 (ret cE) _ _ _;obtain⟨ks,es,ep,t,g,q⟩:=hT;exact aB (hR h' tk (λb o _ hb e=>hk b o hb e) ⟨ks,es,ep,t,hk a _ haw g,q⟩)
 |cons n rest ih=>
  intro i s T hd hi st h0s hT hl hR;have hlt:i<kz.length:=by
   have:=congrArg gS hd;rw[dH,aE]at this
   lia
  have hni:kz[i]?=some n:=by
   have:(kz.drop i)[0]?=some n:=by rw[hd];rfl
   simpa using this
  have hd':kz.drop (i+1)=rest:=by
   have:(kz.drop i).drop 1=rest:=by rw[hd];rfl
   rw[List.drop_drop]at this;exact this
  refine eB eK ?_;rw[dY cC _];show bA _ A.in1 (jV (.ref I)>>=_) _ _ s;refine aA (W.item i s _ _ hlt st λv h1 tk1 hv st1 hk1=>?_);obtain⟨k,b,e1,rfl,hk⟩:=hP i v hv;rw[hni]at e1;cases e1;have h0s1:∀c o,h0.get? c=some o->h1.get? c=some o:=λc o e=>hk1 c o (hb c o e).2 (h0s c o e);obtain⟨ks,es,ep,t,g,so,el,nd,pm,le,pl⟩:=hT;have S1:SetK prog w h1 a ks es ep t:=⟨hk1 a _ haw g,so,J7 h0s1 el,nd⟩;show bA _ A.in1 (holding [cQ b] (setAdd a (.ref b))>>=_) _ _ _;refine aA (cM ?_);unfold setAdd;refine cM (aA ((au prog w).pyHash (k:=n) hu (xm h0s1 hk) ?_));have fl:=P4 rest (s9 T n);have fle:(rest.foldl s9 (s9 T n)).length<=76:=hl
  by_cases hn:n∈ks
  ·have eT:s9 T n=T:=by unfold s9;rw[aG (xk.mpr (pm.mem_iff.mp hn))]
   refine GN (s:={s with heap:=h1,toks:=tk1+(au prog w).draws n}) hu S1 (λz=>absurd hn z) (xm h0s1 hk) (λ_=>?_) λz=>absurd hn z;refine aB ⟨jP cC _,ih (i+1) _ (s9 T n) hd' hlt st1 h0s1 (by rw[eT];exact⟨ks,es,ep,t,S1.at_,so,el,nd,pm,le,pl⟩) hl λh' tk hk' hT'=>?_⟩;exact hR h' tk (λc o hc hw e=>hk' c o hc hw (hk1 c o hw e)) hT'
  ·have hnT:n∉T:=λz=>hn (pm.mem_iff.mpr z);have eT:s9 T n=T++[n]:=by unfold s9;rw[aJ (λz=>hnT (xk.mp z))]
   rw[eT]at fl fle;have few:ks.length<76:=by
    rw[pm.length_eq];simp at fl
    lia
   refine GN (s:={s with heap:=h1,toks:=tk1+(au prog w).draws n}) hu S1 (λ_=>few) (xm h0s1 hk) (λz=>absurd z hn) λ_ h2 ks' es' ep' t' sb S2 pp ee ep1 ep2=>?_;refine aB ⟨jP cC _,ih (i+1) _ (s9 T n) hd' hlt (W.frame _ _ _ st1 λc hc o e=>?_) (λc o e=>?_) ⟨ks',es',ep',t',S2.at_,S2.tab,ee h0 el hk,S2.nd,?_,ep2.trans le,?_⟩ hl λh' tk hk' hT'=>?_⟩
   ·rw[sb.2 c (λz:c=a=>ha (z▸hc))];exact e
   ·show h2.get? c=some o;rw[sb.2 c (hb c o e).1];exact h0s1 c o e
   ·rw[eT];exact(pp.trans (pm.cons n)).trans (List.perm_append_singleton n T).symm
   ·rw[ep1,pl,eT,List.all_append];simp
   ·refine hR h' tk (λc o hc hw e=>hk' c o hc hw ?_) hT';show h2.get? c=some o;rw[sb.2 c hc];exact hk1 c o hw e
end
end L2
end
section
namespace Pu
open PySem PySem.Spec PyProof.Rows L2
def KeysIn(prog:bQ)(w:bZ)(h:Heap):List aC->List bg->Prop
 |[],kz=>kz=[]
 |v::vs,kz=>∃k r b,kz=k::r/\v=.ref b/\c7 prog w h k b/\KeysIn prog w h vs r
theorem KeysIn.len:∀{vs:List aC}{kz:List bg},KeysIn prog w h vs kz->vs.length=kz.length
 |[],kz,e=>by rw[show kz=[]from e];rfl
 |_::_,_,⟨k,r,b,e,_,_,t⟩=>by rw[e,aE,aE,t.len]
theorem KeysIn.get:∀{vs:List aC}{kz:List bg}{i:Nat}{v:aC},KeysIn prog w h vs kz->vs[i]?=some v->∃k b,kz[i]?=some k/\v=.ref b/\c7 prog w h k b
 |[],_,_,_,_,q=>by simp at q
 |_::_,_,0,v,⟨k,r,b,e1,e2,h1,t⟩,q=>by subst e1;simp at q;subst q;exact⟨k,b,rfl,e2,h1⟩
 |_::_,_,i+1,v,⟨k,r,b,e1,e2,h1,t⟩,q=>by
  subst e1;obtain⟨k',b',q1,q2⟩:=KeysIn.get (i:=i) t (by simpa using q);exact⟨k',b',by simpa using q1,q2⟩
section
variable{prog:bQ}{w:bZ}{A:cG}{E:aC->aI->Prop}{s:aI}
def R0{h0:Heap}{items:Array aC}(hu:A.units+12<eL)(hh:A.handled=none)(hl:s.heap.IsList l items)(hi:KeysIn prog w h0 items.toList kz)(hm:∀c o,h0.get? c=some o->s.heap.get? c=some o)(hs:(j7 kz).length<=76)
  (h:∀(h':Heap)(tk:Nat),Ro prog w h0 h' s.heap.objs.size (j7 kz)->(∀c o,c<s.heap.objs.size->s.heap.get? c=some o->h'.get? c=some o)->Q (.ref s.heap.objs.size) {s with heap:=h',toks:=tk}):
  bA (bH prog w) A (call (.type "set") [.ref l]) Q E s:=by
 obtain⟨c0,tl0,hmro⟩:=PySem.F.called_set.mro;have hmade:=PySem.F.called_set.made;have hsub:=PySem.F.called_set.sub;refine mJ (jR ?_);show bA _ _ (callAny (.type "set") _) _ _ _;refine aB ⟨mP _ (by decide+kernel),eB PySem.F.entry_type_call ?_⟩;rw[mQ (kZ "set" [.ref l] []) rfl];have hnt:=PySem.F.called_set.notType;have hcc:=PySem.F.called_set.canCreate;have hct:=PySem.F.typeCall_set_1 (.ref l)
 repeat (any_goals (first|assumption|wp_step))
 refine eP (Ql (.ref l) (E:=E) (Q:=λobj s₁=>obj=.ref s.heap.objs.size/\s₁={s with heap:=s.heap.push {cls:=.type "set",dict:=none,data:=.set #[] 0 (.fresh 0 0 (i9 w))}}) ⟨rfl,rfl⟩) λr s₁ hr=>?_;cases r with
 |error e=>exact hr
 |ok fl=>
  cases fl with
  |ret obj=>
   obtain⟨rfl,rfl⟩:=hr;generalize hh1:s.heap.push {cls:=.type "set",dict:=none,data:=.set #[] 0 (.fresh 0 0 (i9 w))}=h1;have hz1:h1.objs.size=s.heap.objs.size+1:=by rw[<-hh1,fA]
   have k1:∀c o,s.heap.get? c=some o->h1.get? c=some o:=λc o e=>by rw[<-hh1];exact aD _ e
   have hS:h1.get? s.heap.objs.size=some {cls:=.type "set",dict:=none,data:=.set #[] 0 (.fresh 0 0 (i9 w))}:=by rw[<-hh1];exact aX _ rfl
   have hT:Shared.TypeIs {s with heap:=h1} (.ref s.heap.objs.size) "set":=⟨_,hS,rfl⟩;have hli:=PySem.F.called_set.init.lookup;have hbi:=PySem.F.called_set.init.bind (.ref s.heap.objs.size)
   repeat (any_goals (first|assumption|wp_step))
   refine eP (iY (R:=wants (λr s₂=>r=.none/\∃h' tk,s₂={s with heap:=h',toks:=tk}/\Ro prog w h0 h' s.heap.objs.size (j7 kz)/\(∀c o,c<s.heap.objs.size->s.heap.get? c=some o->h'.get? c=some o)) E)
    PySem.F.called_set.init.plain PySem.F.entry_set_init (check_set_init_1 hT ?_)) λr₂ s₂ hr₂=>?_
   ·have hlt:l<s.heap.objs.size:=by
     obtain⟨o,e,_⟩:=hl;exact aT e
    have hh3:A.in1.in1.in1.handled=none:=by simp[hh]
    have hneI:l≠h1.objs.size:=by rw[hz1];exact bJ (gV hlt)
    have hSf:s.heap.objs.size∉[h1.objs.size,l]:=by
     rw[hz1];simp only[dU,nZ,or_false,not_or];exact⟨bJ (hU _),jA hlt⟩
    have len:items.size=kz.length:=by rw[<-aL];exact hi.len
    have fin:∀{h2:Heap}{oI:Obj},h2=h1.push oI->∀(h':Heap)(tk:Nat),(∀c o,c≠s.heap.objs.size->c∉[h1.objs.size]->h2.get? c=some o->h'.get? c=some o)->∀c o,c<s.heap.objs.size->s.heap.get? c=some o->h'.get? c=some o:=λ{h2 oI} e2 h' tk hk c o hc e=>by
     refine hk c o (bJ hc) (by rw[hz1];simp;lia) ?_;rw[e2];exact aD _ (k1 c o e)
    obtain⟨ol,hol,hcl,nl,hdl⟩:=hl;obtain⟨ocls,odict,odata,oslots⟩:=ol;simp only at hcl hdl;subst hcl;subst hdl;have hol':=k1 _ _ hol;have q1:=PySem.F.sub_list_set;have q2:=PySem.F.sub_list_frozenset;have q3:(gE "list"==gE "dict")=false:=by decide
    have hl1:h1.IsList l items:=⟨_,hol',rfl,nl,rfl⟩;unfold Builtin.«set.__init__» noKeywords iE;generalize hPI:pyIter=PI
    wp_walk
    subst hPI;refine fB hl1 (aA (mR ?_));have W:=Walks.list (prog:=prog) (w:=w) hh3 h1.objs.size l hneI items;rw[len]at W;refine Uk (h0:=h0) W (show A.units+1+1+1+4<eL by lia) s.heap.objs.size hSf (λc o e=>⟨bJ (aT (hm c o e)),λz=>bJ (gV (aT (hm c o e))) ((List.mem_singleton.mp z).trans hz1)⟩) (λi v hv=>hi.get (by rw[bO];exact hv)) kz 0 _ [] rfl (bX _) ⟨⟨_,aX _ rfl,rfl,rfl⟩,hl1.push _⟩ (λc o e=>aD _ (k1 c o (hm c o e))) ⟨[],#[],0,_,aD _ hS,ST.T6 _ _ _,rfl,kM,hO _,rfl,rfl⟩ hs λh' tk hk hS'=>?_;refine aB ?_;show bA _ _ (ret cE) _ _ _;exact aB ⟨rfl,h',tk,rfl,hS',fin rfl h' tk hk⟩
   ·cases r₂ with
    |error e=>exact hr₂
    |ok fl₂=>
     cases fl₂ with
     |ret r=>
      obtain⟨rfl,h',tk,rfl,hS',hk'⟩:=hr₂
      repeat (any_goals (first|assumption|wp_step))
      exact h _ _ hS' hk'
     |_=>exact hr₂.elim
  |_=>exact hr.elim
end
def Rp(h:Heap)(a:Addr)(es:Array (Int×aC))(ep:Nat)(t:cY):Prop:=h.get? a=some {cls:=.type "set",dict:=none,data:=.set es ep t}
structure NotDr(w:bZ)(es:Array (Int×aC))(t:cY):Prop where
 fits:t.fits es.size=true
 rise:ST.Ris t.place
 led:t.led=i9 w
 pl:w.params.followText "set-order"=true\/(!t.plain && decide (es.size>1))=false
theorem NotDr.size{es:Array (Int×aC)}{t:cY}(N:NotDr w es t):t.place.size=es.size:=by
 have:=N.fits;unfold iG at this;rw[aF]at this;simpa using this.1
def NotDr.walk{es:Array (Int×aC)}{t:cY}(N:NotDr w es t):fC t.place 0=0/\∀i,i<es.size->fC t.place (t.place.getD i 0+1)=i+1:=by
 have at_:∀i,i<t.place.size->t.place[i]?=some (t.place.getD i 0):=λi hi=>by
  rw[bP hi];simp[mV,hi]
 refine⟨?_,λi hi=>?_⟩
 ·obtain⟨b1,b2,b3⟩:=ST.w9 (j:=0) N.rise;refine eJ λz=>?_;have:=b2 0 _ (by lia) (at_ 0 (by lia))
  lia
 ·rw[<-N.size]at hi;obtain⟨b1,b2,b3⟩:=ST.w9 (j:=t.place.getD i 0+1) N.rise;rcases iR (fC t.place (t.place.getD i 0+1)) (i+1)with z|z|z
  ·have:=b3 i _ (by lia) (at_ i hi);lia
  ·exact z
  ·have h1:=b2 (i+1) _ z (at_ (i+1) (by lia));have h2:=N.rise.lt (hU i) (at_ i hi) (at_ (i+1) (by lia))
   lia
noncomputable def lq(w:bZ)(t:cY)(i:Nat):Nat:=if w.params.followText "set-order" then 0 else if i=0 then 0 else t.place.getD (i - 1) 0+1
section
variable{prog:bQ}{w:bZ}{A:cG}{E:aC->aI->Prop}{s:aI}{a I:Addr}{es:Array (Int×aC)}{ep i:Nat}{t:cY}
def Qz(N:NotDr w es t)(ho:Rp s.heap a es ep t)(hi:i<=es.size)
  (h:Q (((gu w a ep es)[i]?).map λe=>(e.2,lq w t (i+1))) s):bA (bH prog w) A (setNext a (lq w t i) i ep) Q E s:=by
 have hf:t.fits es.size=true:=N.fits;unfold setNext;refine aA (cW ho rfl hf ?_);dsimp only;unfold mS;refine aA (aA (eW (aB ?_)));have hb0:(bH prog w).w.params.followText "set-order"=w.params.followText "set-order":=rfl;cases bt:w.params.followText "set-order" with
 |true=>
  have e0:gu w a ep es=pF (w.params.setOrder a ep) es:=by unfold gu;rw[aG bt]
  have e1:∀i,lq w t i=0:=λi=>by unfold lq;rw[aG bt]
  rw[e0,e1]at h;rw[e1];have e2:(⟨(bH prog w).prog,(bH prog w).w.params⟩:Setting).params.followText "set-order"=true:=bt;rw[e2];simp only[if_true,bne_self_eq_false,Bool.false_eq_true,if_false];refine aA ?_;unfold setWalk;refine aA (cW ho rfl hf ?_);dsimp only;unfold mS;refine aA (aA (eW (aB ?_)));rw[e2];simp only[if_true];refine aA (eW (aB ?_));exact aB h
 |false=>
  have e0:gu w a ep es=es:=by unfold gu;rw[aJ (by rw[bt];decide)]
  have e1:∀i,lq w t i=if i=0 then 0 else t.place.getD (i - 1) 0+1:=λi=>by unfold lq;rw[aJ (by rw[bt];decide)]
  have e2:(⟨(bH prog w).prog,(bH prog w).w.params⟩:Setting).params.followText "set-order"=false:=bt;have e3:i9 w=true:=by unfold i9;rw[bt];rfl
  have bl:fC t.place (lq w t i)=i:=by
   obtain⟨b1,b2⟩:=N.walk;rw[e1]
   by_cases z:i=0
   ·rw[aG z,z];exact b1
   ·rw[aJ z,b2 (i - 1) (by lia)];lia
  rw[e0]at h;rw[e2];simp only[Bool.false_eq_true,if_false];refine iF (λz=>?_) λ_=>?_
  ·have z':(!t.plain && decide (es.size>1))=true:=z;rcases N.pl with y|y
   ·rw[bt]at y;cases y
   ·rw[y]at z';cases z'
  ·refine aA ?_;have e4:(!t.led && !es.isEmpty)=false:=by
    have:t.led=true:=N.led.trans e3;rw[this];rfl
   wp_delta
   rw[e4];simp only[Bool.false_eq_true,if_false];refine aB (aB ?_);rw[bl];cases hc:es[i]? with
   |none=>
    rw[hc]at h;exact h
   |some e=>
    rw[hc]at h;have hlt:i<t.place.size:=by
     have:=(Array.getElem?_eq_some_iff.mp hc).1;have:=N.size
     lia
    rw[bP hlt];have:lq w t (i+1)=t.place[i]+1:=by
     rw[e1,aJ (by lia)];simp[mV,hlt]
    rw[this]at h;exact h
def DH(N:NotDr w es t)(ho:Rp s.heap a es ep t)(hit:SetIt s.heap I a (lq w t i) i es.size ep)(he:(gu w a ep es)[i]?=some e)
  (hQ:∀h',SetIt h' I a (lq w t (i+1)) (i+1) es.size ep->cK I s.heap h'->Q (some e.2) {s with heap:=h'}):bA (bH prog w) A (jV (.ref I)) Q E s:=by
 have hf:t.fits es.size=true:=N.fits;have hi:i<=es.size:=by
  have h1:=(Array.getElem?_eq_some_iff.mp he).1;have h2:=(gj w a ep es).length_eq;rw[aL,aL]at h2
  lia
 unfold jV;refine aA (lJ (eV (name:=fX "__next__") hit.ty g8 (cU g8 hit.ty q8 ?_ (q0 _))));unfold Builtin.«set_iterator.__next__»;refine aA (aB ?_);refine aA (mT hit rfl ?_);dsimp only[dR];refine aA (fV ho rfl hf ?_);rw[aJ (by simp)];refine aA (Qz (prog:=prog) N ho hi ?_);rw[show((ep:Int).toNat)=ep from iP ep,he];dsimp only[oN];have hit0:s.heap.get? I=some {cls:=.type "set_iterator",data:=.fields #[dR (lq w t i:Nat),dR (i:Nat),.ref a,dR (es.size:Nat),dR (ep:Nat)]}:=hit;refine aA (fQ hit0 rfl (by simp) ?_);have g1:=cN (eY (·.setIfInBounds 0 (gK ((lq w t (i+1):Nat):Int) 0))) hit0 rfl;refine aA (fQ g1 rfl (by simp[eY]) ?_);have g2:=cN (eY (·.setIfInBounds 1 (gK ((i:Int)+1) 0))) g1 rfl;refine aB ⟨e.2,rfl,aB (hQ _ ?_ ((cH ..).trans (cH ..)))⟩;unfold SetIt;rw[g2];rfl
def LI(hh:A.handled=none)(N:NotDr w es t)(ho:Rp s.heap a es ep t)(hit:SetIt s.heap I a (lq w t es.size) es.size es.size ep)
  (hQ:∀h',Heap.ExtBut I s.heap h'->Q none {s with heap:=h'}):bA (bH prog w) A (jV (.ref I)) Q E s:=by
 have hf:t.fits es.size=true:=N.fits;have he:(gu w a ep es)[es.size]?=none:=by
  have h2:=(gj w a ep es).length_eq;rw[aL,aL]at h2;rw[<-h2];simp
 unfold jV;refine aA (lJ (eV (name:=fX "__next__") hit.ty g8 (cU g8 hit.ty q8 ?_ (q0 _))));unfold Builtin.«set_iterator.__next__»;refine aA (aB ?_);refine aA (mT hit rfl ?_);dsimp only[dR];refine aA (fV ho rfl hf ?_);rw[aJ (by simp)];refine aA (Qz (prog:=prog) N ho (aH _) ?_);rw[show((ep:Int).toNat)=ep from iP ep,he];dsimp only[oN];have hit0:s.heap.get? I=some {cls:=.type "set_iterator",data:=.fields #[dR (lq w t es.size:Nat),dR (es.size:Nat),.ref a,dR (es.size:Nat),dR (ep:Nat)]}:=hit;refine aA (fQ hit0 rfl (by simp) ?_);show bA _ _ (newExc (.type "StopIteration") []>>=raiseNew) _ _ _;refine aA ?_;simp only[newExc,newTuple];refine aA (cL ?_ (by size_fits));refine aA (m:=mU _ _) (lR (a:=cE) (by first|rfl|(simp only[mU];rfl)) ?_);refine cL ?_ (by size_fits);simp only[raiseNew];refine aA (wpAny_handled ?_);rw[show A.in1.handled=none from hh];refine aA (aB (wpAny_throw ?_));refine aA (hG (T:="StopIteration") (b:=true) ⟨_,aX _ rfl,rfl⟩ isSubtype_stop ?_);exact aB (hQ _ (((cH ..).extBut.push _).push _))
def DG(N:NotDr w es t)(ho:Rp s.heap a es ep t)
  (hQ:Q (.ref s.heap.objs.size) {s with heap:=s.heap.push {cls:=.type "set_iterator",data:=.fields #[dR (0:Nat),dR (0:Nat),.ref a,dR (es.size:Nat),dR (ep:Nat)]}}):bA (bH prog w) A (pyIter (.ref a)) Q E s:=by
 have hT:s.TypeIs (.ref a) "set":=⟨_,ho,rfl⟩;have hf:t.fits es.size=true:=N.fits;refine kR hT iL (cU iL hT Dr ?_ (PySem.F.args_set_iter_1 _));unfold Builtin.«frozenset.__iter__» Builtin.Frozenset.slot0 slotArgs;simp only[List.isEmpty_nil,dJ,Bool.false_eq_true,↓reduceIte,bind_assoc,dC,bne_self_eq_false];unfold Builtin.Frozenset.addrOf Builtin.Frozenset.sizeOf;refine aA (aB ?_)
 try dsimp only
 refine aA (aB ?_);refine aA (aA (fV ho rfl hf (aB ?_)));refine aA ?_;unfold setDrawn;refine aA (cW ho rfl hf ?_);dsimp only;unfold mS;refine aA (aA (eW (aB (aB ?_))));refine iF (λz=>?_) λ_=>?_
 ·exfalso;rw[aF]at z;have z':(!t.plain && decide (es.size>1))=true:=z.2;have z1:(!(w.params.followText "set-order"))=true:=z.1;rcases N.pl with y|y
  ·rw[y]at z1;cases z1
  ·rw[y]at z';cases z'
 ·refine aA (aB (aA (wpAny_setEpoch_of ho rfl hf ?_)));refine aA (cL (aB ⟨_,rfl,"set_iterator",_,⟨_,aX _ rfl,rfl⟩,g8.lookup,hQ⟩) (by size_fits))
def Z7(hh:A.handled=none)(N:NotDr w es t)(hne:a≠I):Walks prog w A I [I,a] [I] es.size (λi v=>∃e,(gu w a ep es)[i]?=some e/\v=e.2) (λi h=>SetIt h I a (lq w t i) i es.size ep/\Rp h a es ep t) where
 sub:=λb hb=>by simp at hb;simp[hb]
 frame:=λ_ _ _ st hk=>⟨hk I (by simp) _ st.1,hk a (by simp) _ st.2⟩
 item:=λi s Q E hi st hQ=>by
  have h2:=(gj w a ep es).length_eq;rw[aL,aL]at h2;have he:(gu w a ep es)[i]?=some ((gu w a ep es)[i]'(by lia)):=bP _;exact DH N st.2 st.1 he λh' hit' hs'=>hQ _ h' s.toks ⟨_,he,rfl⟩ ⟨hit',(hs'.2 a hne).trans st.2⟩ λb o hb e=>hs'.extBut b o (λh=>hb (by simp[h])) e
 done:=λs Q E st hQ=>LI hh N st.2 st.1 λh' he'=>hQ h' s.toks λb o hb e=>he' b o (λh=>hb (by simp[h])) e
 self:=λi s Q E st hQ=>by
  refine kR st.1.ty ya (cU ya st.1.ty Du ?_ (Dt _));show bA _ _ (ret (.ref I)) _ _ s;exact aB ⟨_,rfl,"set_iterator",_,st.1.ty,g8.lookup,hQ⟩
end
section
variable{prog:bQ}{w:bZ}{A:cG}{E:aC->aI->Prop}{s:aI}{a L:Addr}{es:Array (Int×aC)}{ep:Nat}{t:cY}
def NN(N:NotDr w es t):PySem.W.KdlSrc prog w "set" a a es.size (λi v=>∃e,(gu w a ep es)[i]?=some e/\v=e.2) (λh=>Rp h a es ep t) where
 type:=λ_ hm=>⟨_,hm,rfl⟩
 there:=λ_ hm=>⟨aT (show pG _ a=some _ from hm),aT (show pG _ a=some _ from hm)⟩
 keep:=λ_ _ hm hk=>hk a (.inl rfl) _ hm
 notList:=by decide
 notTuple:=by decide
 hint:=λ_ _ _ _ hm hq=>Lx ⟨_,hm,rfl⟩ hq
 iter:=λA s hh hm=>⟨_,_,(λ_ _ hq=>DG N hm hq),Z7 hh N (bJ (aT (show pG _ a=some _ from hm))),⟨by
  have:lq w t 0=0:=by unfold lq;split<;>rfl
  rw[this];exact aX _ rfl,aD _ hm⟩⟩
end
section
variable{prog:bQ}{w:bZ}{A:cG}{E:aC->aI->Prop}{s:aI}{a:Addr}
def Vy{l l':List (Int×aC)}(p:l.Perm l'):∀{ks:List bg},ElsK prog w h l ks->∃ks',ks'.Perm ks/\ElsK prog w h l' ks':=by
 induction p with
 |nil=>intro ks q;exact⟨ks,hO _,q⟩
 |cons x p ih=>
  intro ks ⟨k,r,e,h1,h2⟩;subst e;obtain⟨r',q1,q2⟩:=ih h2;exact⟨k::r',q1.cons k,k,r',rfl,h1,q2⟩
 |swap x y l=>
  intro ks ⟨k,r,e,h1,k2,r2,e2,h2,h3⟩;subst e;subst e2;exact⟨k2::k::r2,kQ _ _ _,k2,k::r2,rfl,h2,k,r2,rfl,h1,h3⟩
 |trans p1 p2 ih1 ih2=>
  intro ks q;obtain⟨k1,q1,q2⟩:=ih1 q;obtain⟨k2,q3,q4⟩:=ih2 q2;exact⟨k2,q3.trans q1,q4⟩
theorem J6:∀{l:List (Int×aC)}{ks:List bg},ElsK prog w h l ks->KeysIn prog w h (l.map (·.2)) ks
 |[],ks,e=>e
 |_::_,_,⟨k,r,e,⟨_,b,e2,e3⟩,h2⟩=>⟨k,r,b,e,e2,e3,J6 h2⟩
def Lw{T:List bg}(hh:A.handled=none)(S:Ro prog w h0 s.heap a T)(few:T.length<=76)(pt:T.all Mp=true)
  (hR:∀d' h' tk vs kz,(∀b o,s.heap.get? b=some o->h'.get? b=some o)->List.Perm kz T->KeysIn prog w h0 vs kz->R vs {s with heap:=h',toks:=tk,drawn:=d'}):bA (bH prog w) A (collect (.ref a)) R E s:=by
 obtain⟨ks,es,ep,t,g,so,el,nd,pm,le,pl⟩:=S;have ln:es.size=T.length:=by rw[<-pm.length_eq,<-el.len,aL]
 have hf:t.fits es.size=true:=by
  obtain⟨h1,h2⟩:=so.toTOk.fits;unfold iG;rw[aF];exact⟨by rw[h1];simp,decide_eq_true h2⟩
 have zn:es.size<=aQ:=by rw[cD];lia
 have fin:∀(l:List (Int×aC)),l.Perm es.toList->∃kz,List.Perm kz T/\KeysIn prog w h0 (l.map (·.2)) kz:=λl hp=>by
  obtain⟨ks',q1,q2⟩:=Vy hp.symm el;exact⟨ks',q1.trans pm,J6 q2⟩
 by_cases dr:False
 ·exact dr.elim
 ·have N:NotDr w es t:=⟨hf,so.rise,le,.inr (by rw[pl,pt];rfl)⟩;refine PySem.W.kdu_collect (NN (ep:=ep) N) hh g zn λh' tk acc hk hacc=>?_;have wl:=(gj w a ep es).length_eq;have ew:acc.toList=(gu w a ep es).toList.map (·.2):=by
   refine nF λi=>?_
   by_cases hi:i<acc.size
   ·have hi':acc.toList[i]?=some acc[i]:=by rw[bO];exact bP hi
    obtain⟨e,e1,e2⟩:=hacc.2 i acc[i] (bP hi);rw[hi',bM,bO,e1,e2];rfl
   ·rw[eM (by rw[aL];lia),eM (by rw[aO,wl,aL,<-hacc.1];lia)]
  obtain⟨kz,q1,q2⟩:=fin _ (gj w a ep es);rw[ew];exact hR s.drawn h' tk _ kz hk q1 q2
end
def Dg(x:Option HO)(o:Obj):Obj:=match x with
 |some (.tup _)=>o
 |_=>{o with data:=.freed}
def Tf(h:∀vs,x≠some (.tup vs)):(Dg x o).data=.freed:=by
 unfold Dg;split
 ·rename_i vs;exact absurd rfl (h vs)
 ·rfl
def Gw(H:Hp)(h:Heap):Heap:={h with objs:=h.objs.mapIdx λi o=>Dg (H i) o}
def Wh{h:Heap}{o:Obj}(e:h.objs[b]?=some o)(hd:o.data≠.freed):h.get? b=some o:=by
 unfold pG;rw[e];obtain⟨c,d,dt,sl⟩:=o;cases dt<;>first|rfl|exact absurd rfl hd
def Wi{h:Heap}{o:Obj}(e:h.get? b=some o):h.objs[b]?=some o/\o.data≠.freed:=by
 unfold pG at e;cases ho:h.objs[b]? with
 |none=>rw[ho]at e;cases e
 |some ob=>
  rw[ho]at e;obtain⟨c,d,dt,sl⟩:=ob;cases dt<;>first|(cases e;exact⟨rfl,λz=>nomatch z⟩)|cases e
def AE{h:Heap}(e:h.get? b=some o)(hb:H b=some (.tup vs)):(Gw H h).get? b=some o:=by
 obtain⟨e1,e2⟩:=Wi e;refine Wh ?_ e2;show(h.objs.mapIdx λi o=>Dg (H i) o)[b]?=some o;rw[Array.getElem?_mapIdx,e1];show some (Dg (H b) o)=some o;rw[hb];rfl
def Bz{h:Heap}(e:(Gw H h).get? b=some o):h.get? b=some o/\∃vs,H b=some (.tup vs):=by
 obtain⟨e1,e2⟩:=Wi e;have e1':(h.objs.mapIdx λi o=>Dg (H i) o)[b]?=some o:=e1;rw[Array.getElem?_mapIdx]at e1';cases ho:h.objs[b]? with
 |none=>rw[ho]at e1';cases e1'
 |some ob=>
  rw[ho]at e1';have e3:Dg (H b) ob=o:=bS e1'
  by_cases c:∃vs,H b=some (.tup vs)
  ·obtain⟨vs,hb⟩:=c;rw[hb]at e3;have e4:ob=o:=e3;subst e4;exact⟨Wh ho e2,vs,hb⟩
  ·have:=Tf (x:=H b) (o:=ob) λvs z=>c ⟨vs,z⟩;rw[e3]at this;exact absurd this e2
section
variable{P:bQ}{w:bZ}{G H:Hp}{h:Heap}{K:KA}
def O5(H:Hp):Hp:=gT (λ_=>none) H
def BQ(ok:HOk P w H h):HOk P w (O5 H) (Gw H h):=by
 intro a o e
 by_cases c:∃vs,H a=some (.tup vs)
 ·obtain⟨vs,hb⟩:=c;rw[show O5 H a=some (.tup vs)from y6 hb]at e;cases e;obtain⟨z,its,r,ob,e1,e2⟩:=(show ObjOk P w H h a (.tup vs)from ok a _ hb);exact⟨z,its,r,ob,AE e1 hb,e2⟩
 ·rw[show O5 H a=none from Hh λvs z=>c ⟨vs,z⟩]at e;cases e
def BC(ok:HOk P w H h)(q:TkAt H k b):c7 P w (Gw H h) k b:=y9 (BQ ok) (q.mono λb xs e=>y6 e)
def Yu(r:RelV x (.ref b)):x=.ref b:=by
 cases x<;>first|(cases r;rfl)|(obtain⟨_,z⟩:=r;cases z)|cases r
def Qe(e:(cb P w).is k v=true)(r:RelV x v):x=kV k:=by
 rcases c9 e with ⟨i,t,rfl,rfl⟩|⟨y,t,rfl,rfl⟩
 ·cases x<;>first|(obtain⟨_,z⟩:=r;cases z;rfl)|(obtain⟨_,z⟩:=r;cases z)|cases r
 ·cases x<;>first|(obtain⟨_,z⟩:=r;cases z;rfl)|(obtain⟨_,z⟩:=r;cases z)|cases r
theorem Cp:∀{ks:List rn}{us:List aC}{xs:List V},ItemsAre (cb P w) ks us->Vals xs us->xs=ks.map kV
 |_,_,_,.nil,r=>by cases r;rfl
 |_,_,_,.cons h1 t1,r=>by
  cases r with
  |cons h2 t2=>rw[Qe h1 h2,Cp t1 t2,aV]
def Zt(ok:HOk P w H h){ks:List rn}(q:hV (cb P w) (Gw H h) ks b):H b=some (.tup (ks.map kV)):=by
 obtain⟨o,items,n,e,hc,hd,hi⟩:=q;obtain⟨e1,vs,hb⟩:=Bz e;obtain⟨_,its,r,ob,e2,hc2,n2,hd2⟩:=(show ObjOk P w H h b (.tup vs)from ok b _ hb);rw[e1]at e2;cases e2;rw[hd]at hd2;cases hd2;rw[hb,Cp (by simpa using hi) r]
theorem K8(ok:HOk P w H h):∀{ks:bg}{vs:List V}{us:List aC},NItems P w (Gw H h) ks us->Vals vs us->NkL H ks vs
 |[],vs,us,e,r=>by rw[show us=[]from e]at r;cases r;rfl
 |k::ks,vs,us,⟨v,t,e,q,e2⟩,r=>by
  subst e;cases r with
  |cons h1 t1=>
   refine⟨_,_,rfl,?_,K8 ok e2 t1⟩;cases k with
   |inl k=>exact Qe q h1
   |inr ys=>obtain⟨b,rfl,q⟩:=q;exact⟨b,Yu h1,Zt ok q⟩
def Wx(ok:HOk P w H h)(q:c7 P w (Gw H h) ks b):TkAt H ks b:=by
 obtain⟨o,items,n,e,hc,hd,hi⟩:=q;obtain⟨e1,vs,hb⟩:=Bz e;obtain⟨_,its,r,ob,e2,hc2,n2,hd2⟩:=(show ObjOk P w H h b (.tup vs)from ok b _ hb);rw[e1]at e2;cases e2;rw[hd]at hd2;cases hd2;exact⟨vs,hb,K8 ok (by simpa using hi) r⟩
theorem Cv(hp:∀k b,c7 P w h0 k b->TkAt H k b):∀{us:List aC}{kz:List bg},KeysIn P w h0 us kz->∃vs,Vals vs us/\DenL K (gT G H) (kz.map kT) vs
 |[],kz,e=>by rw[show kz=[]from e];exact⟨[],.nil,rfl⟩
 |_::_,_,⟨k,r,b,e1,e2,q,t⟩=>by
  subst e1 e2;obtain⟨vs,h1,h2⟩:=Cv hp t;exact⟨.ref b::vs,.cons rfl h1,⟨_,_,rfl,IC (hp k b q),h2⟩⟩
def TL(H:Hp):List V->List bg->Prop
 |[],kz=>kz=[]
 |v::vs,kz=>∃k r b,kz=k::r/\v=.ref b/\TkAt H k b/\TL H vs r
theorem Fv(ok:HOk P w H h):∀{vs:List V}{us:List aC}{kz:List bg},TL H vs kz->Vals vs us->KeysIn P w (Gw H h) us kz
 |[],us,kz,e,r=>by cases r;exact e
 |v::vs,us,kz,⟨k,r',b,e1,e2,q,t⟩,r=>by
  subst e1 e2;cases r with
  |cons h1 t1=>exact⟨k,r',b,rfl,h1,BC ok q,Fv ok t t1⟩
def ox:List D->Option (List bg)
 |[]=>some []
 |d::ds=>match d7 d,ox ds with
  |some k,some r=>some (k::r)
  |_,_=>none
theorem GC(sg:Same G H):∀{ds:List D}{vs:List V}{kz:List bg},DenL K G ds vs->ox ds=some kz->TL H vs kz
 |[],vs,kz,dl,e=>by cases e;rw[show vs=[]from dl];rfl
 |d::ds,vs,kz,⟨v,vr,e1,dv,dr⟩,e=>by
  subst e1;unfold ox at e;cases h1:d7 d with
  |none=>rw[h1]at e;cases e
  |some k=>
   cases h2:ox ds with
   |none=>rw[h1,h2]at e;cases e
   |some r=>
    rw[h1,h2]at e;cases e;cases d with
    |tup es=>
     obtain⟨b,ws,rfl,hb,dw⟩:=dv;exact⟨k,r,b,rfl,rfl,TkAt.mono (λb xs z=>sg b _ z) ⟨ws,hb,B2 dw h1⟩,GC sg dr h2⟩
    |_=>cases h1
noncomputable def wb(d:D):Option D:=match d with
 |.lst ds=>(ox ds).bind λkz=>if(j7 kz).length<=76/\(j7 kz).all Mp=true then(n4 ((j7 kz).map kT)).map .lst else none
 |_=>none
def cf(d:D):Option D:=match j5 d with
 |some r=>some r
 |none=>wb d
end
section
variable{X:Cx}
def PX(X:Cx)(H0:Hp)(p:Addr)(T:List bg)(h:Heap):Prop:=∃h0,Ro X.prog X.w h0 h p T/\∀k b,c7 X.prog X.w h0 k b->TkAt H0 k b
def BW(X:Cx)(H0:Hp)(p:Addr)(T:List bg):HO:=.ext (PX X H0 p T)
def Yp(X:Cx):List V->Hp->VK->Prop:=λxs H Q=>∃a vs kz,xs=[.ref a]/\SqL X.K H a vs/\TL H vs kz/\(j7 kz).length<=76/\∀p,H p=none->Q (.ref p) (upd H p (BW X H p (j7 kz)))
def Mw(hc:X.calm=true)(hu:X.A.units+12<eL):CallR X (.type "set") (Yp X):=by
 intro pins s Z H xs us Q I r q;obtain⟨a,vs,kz,rfl,sq,kv,sm,q⟩:=q;obtain⟨u,rfl,ru⟩:=mh r;cases ru;obtain⟨its,rv,pl,_⟩:=I.list sq;refine R0 (h0:=Gw H s.heap) hu (I.ok.hd hc) pl.isList (by simpa using Fv I.hok kv rv) (λc o e=>(Bz e).1) sm λh' tk hS hk=>?_;refine⟨.ref s.heap.objs.size,_,I.laid (a:=s.heap.objs.size) (o:=BW X H s.heap.objs.size (j7 kz)) (t':=tk) (λb o e=>hk b o (aT e) e) (aH _) ?_,rfl,q _ (I.hok.fresh (aH _))⟩;refine⟨⟨_,hS,λk b z=>Wx I.hok z⟩,?_,λh1 h2 ⟨h0,x,y⟩ k=>⟨h0,?_,y⟩⟩
 ·obtain⟨ks,es,ep,t,g,_⟩:=hS;exact⟨_,g⟩
 ·obtain⟨ks,es,ep,t,g,z⟩:=x;exact⟨ks,es,ep,t,k _ g,z⟩
def Oc(X:Cx):List V->Hp->VK->Prop:=λxs H Q=>∃p T H0 G ds',xs=[.ref p]/\H p=some (BW X H0 p T)/\(∀b ys,H0 b=some (.tup ys)->H b=some (.tup ys))/\Same G H/\(T.length<=76/\T.all Mp=true)/\n4 (T.map kT)=some ds'/\∀q vs',H q=none->DenL (kx X) (gT G H) ds' vs'->Q (.ref q) (upd H q (.lst vs'))
def Jm(hu:X.A.units+5<eL)(hc:X.calm=true):CallR X (.builtin "sorted") (Oc X):=by
 intro pins s Z H xs us Q I r q;obtain⟨p,T,H0,G,ds',rfl,hp,ht,sg,few,es,q⟩:=q;obtain⟨u,rfl,ru⟩:=mh r;cases ru;obtain⟨⟨h0,hS,hk0⟩,_,_⟩:=I.hok p _ hp;refine L6 (G:=gT G H) hu I (V4 sg).gh (λQ' E' hq=>?_) q;refine Lw (I.ok.hd hc) hS few.1 few.2 λd' h' tk vs kz k1 pm ki=>?_;obtain⟨ys,rx,dl⟩:=Cv (K:=kx X) (G:=G) (H:=H) (λk b z=>(hk0 k b z).mono ht) ki;exact hq d' h' tk vs ys (kz.map kT) k1 rx dl (Oo ((pm.map kT).symm) es)
end
section
variable{X:Cx}{B:Hp}{E:EK}{e:Expr}{g:En->Res}{pos p pos' p':Pos}
def Oq(sg:Same G H)(ax:Arg (kx X) G H dx x)(ed:wb dx=some d)(q:∀v G' H',Ext G H G' H'->Den (kx X) G' d v->Q v H'):
  Yp X [x] H λx H1=>Oc X [x] H1 Q:=by
 cases dx with
 |lst ds=>
  have ed1:((ox ds).bind λkz=>if(j7 kz).length<=76/\(j7 kz).all Mp=true then(n4 ((j7 kz).map kT)).map D.lst else none)=some d:=ed;cases hk:ox ds with
  |none=>rw[hk]at ed1;cases ed1
  |some kz=>
   rw[hk]at ed1;have ed2:(if(j7 kz).length<=76/\(j7 kz).all Mp=true then(n4 ((j7 kz).map kT)).map D.lst else none)=some d:=ed1
   by_cases few:(j7 kz).length<=76/\(j7 kz).all Mp=true
   ·rw[aG few]at ed2;cases e2:n4 ((j7 kz).map kT)with
    |none=>rw[e2]at ed2;cases ed2
    |some ds'=>
     rw[e2]at ed2;cases ed2;obtain⟨a,vs,rfl,sq,dl⟩:=ax.lst sg;refine⟨a,vs,kz,rfl,sq,GC sg dl hk,few.1,λp hp=>?_⟩;have x1:=Ext.own sg (BW X H p (j7 kz)) hp;refine⟨p,j7 kz,H,G,ds',rfl,ar,λb ys e=>?_,x1.gh,few,e2,λq' vs' hq' d'=>?_⟩
     ·rw[ak (aq e hp)];exact e
     ·have x2:=V4 x1.gh;exact q _ _ _ (x1.trans (x2.trans (Ext.new x2.gh (.lst vs') hq'))) (sr x2.gh hq' d')
   ·rw[aJ few]at ed2;cases ed2
 |_=>cases ed
def To(hu:X.A.units+12<eL)(hc:X.calm=true)(hg:Gl X "sorted")(hm:X.mg "sorted"=none)(hg':Gl X "set")(hm':X.mg "set"=none)(ha:lx X B E e g)(he:bE [e] X.env=(false,eval e X.env)::bE [] X.env):
  gq X B E (.Call (.Name "sorted" p) [.Call (.Name "set" p') [e] [] pos'] [] pos) (g1 cf g):=
 PE.imp (nu ((My hc).or (Jm (by lia) hc)) hg hm PyProof.Rows.boot_sorted (oq (mw ((Ve hc).or (Mw hc hu)) hg' hm' PyProof.Rows.boot_set (gw ha ji he) (by decide) (by decide) he rfl) zf rfl) (by decide) (by decide) rfl rfl) λZ H Q q=>
  IP (rr:=λxs H Q=>(λxs H Q=>RI X xs H Q\/Yp X xs H Q) xs H λx H1=>(λxs H Q=>Yq X xs H Q\/Oc X xs H Q) [x] H1 Q) (λG H x dx d sg ax ed Q q=>by
   unfold cf at ed;cases h0:j5 dx with
   |some r=>
    rw[h0]at ed;cases ed;unfold j5 at h0;cases hs:Lv dx with
    |none=>rw[hs]at h0;cases h0
    |some S=>
     rw[hs]at h0;cases h0;obtain⟨a,ns,rfl,sq,sm,es⟩:=T3 sg ax hs;refine .inl ⟨a,ns,rfl,sq,sm,λp hp=>.inl ⟨p,S,rfl,by rw[es];exact ar,λq' hq'=>?_⟩⟩;have x1:=Ext.own sg (BV X.w p (wc ns)) hp;exact q _ _ _ (x1.trans (Ext.new x1.gh (.lst (S.map λ(k:Nat)=>V.int (k:Int))) hq')) (sr x1.gh hq' (yu S))
   |none=>
    rw[h0]at ed;obtain⟨a,vs,kz,h1,h2,h3,h4,h5⟩:=Oq (X:=X) sg ax ed q;exact .inr ⟨a,vs,kz,h1,h2,h3,h4,λp hp=>.inr (h5 p hp)⟩) q
end
def Dl:D->D->Option D:=Mq λi j=>some (.int (if j<i then j else i))
def Dk:D->D->Option D:=Mq λi j=>some (.int (if j>i then j else i))
section
variable{X:Cx}{B:Hp}{E:EK}{a b:Expr}{g h:En->Res}{pos p:Pos}
def MF(f:Int->Int->Int):List V->Hp->VK->Prop:=λxs H Q=>∃i j,xs=[.int i,.int j]/\Q (.int (f i j)) H
def Ry(hc:X.calm=true):CallR X (.builtin "max") (MF λi j=>if j>i then j else i):=by
 intro pins s Z H xs us Q I r q;obtain⟨i,j,rfl,q⟩:=q;obtain⟨u,v,rfl,⟨t,rfl⟩,⟨t',rfl⟩⟩:=Z6 r;refine max_two_ints (I.ok.hd hc) λh' tk hk=>⟨.int (if j>i then j else i),H,I.kept hk,?_,q⟩
 by_cases c:j>i
 ·rw[aG c,aG c];exact⟨_,rfl⟩
 ·rw[aJ c,aJ c];exact⟨_,rfl⟩
def Rz(hc:X.calm=true):CallR X (.builtin "min") (MF λi j=>if j<i then j else i):=by
 intro pins s Z H xs us Q I r q;obtain⟨i,j,rfl,q⟩:=q;obtain⟨u,v,rfl,⟨t,rfl⟩,⟨t',rfl⟩⟩:=Z6 r;refine min_two_ints (I.ok.hd hc) λh' tk hk=>⟨.int (if j<i then j else i),H,I.kept hk,?_,q⟩
 by_cases c:j<i
 ·rw[aG c,aG c];exact⟨_,rfl⟩
 ·rw[aJ c,aJ c];exact⟨_,rfl⟩
def SJ{K:KA}{f:Int->Int->Int}{Z:St}{H:Hp}{Q:VK}(q:ON K B E (g2 (Mq λi j=>some (.int (f i j))) g h) Z H Q):UX (MF f) (XR K B E [true,true] (ae g (ae h ai))) Z H Q:=by
 obtain⟨G,U,R,q⟩:=q;refine⟨G,U,R,?_⟩;unfold ae ai;cases eg:g U with
 |ok x=>
  cases eh:h U with
  |ok y=>
   have q':ResP E G H (Res.of (Mq (λi j=>some (.int (f i j))) x y)) λd=>∀v G' H',Ext G H G' H'->Den K G' d v->Q v H':=by
    have e:g2 (Mq λi j=>some (.int (f i j))) g h U=Res.of (Mq (λi j=>some (.int (f i j))) x y):=by unfold g2;rw[eg,eh];rfl
    rw[e]at q;exact q
   obtain⟨d,ed,qd⟩:=ResP.of q';intro vs G' H' e1 al;obtain⟨d1,dr,v1,vr,z1,rfl,a1,d2,dr2,v2,vr2,z2,rfl,a2,z3,rfl⟩:=al;cases z1;cases z2;cases x with
   |int i=>
    cases y with
    |int j=>
     cases ed;exact⟨i,j,by rw[Arg.int a1,Arg.int a2],qd _ G' H' e1 rfl⟩
    |_=>cases ed
   |_=>cases ed
  |er c=>
   have e:g2 (Mq λi j=>some (.int (f i j))) g h U=.er c:=by unfold g2;rw[eg,eh];rfl
   rw[e]at q;exact q
  |st=>
   have e:g2 (Mq λi j=>some (.int (f i j))) g h U=.st:=by unfold g2;rw[eg,eh];rfl
   rw[e]at q;exact q
 |er c=>
  have e:g2 (Mq λi j=>some (.int (f i j))) g h U=.er c:=by unfold g2;rw[eg];rfl
  rw[e]at q;exact q
 |st=>
  have e:g2 (Mq λi j=>some (.int (f i j))) g h U=.st:=by unfold g2;rw[eg];rfl
  rw[e]at q;exact q
def EN(hc:X.calm=true)(hg:Gl X "max")(hm:X.mg "max"=none)(ha:lx X B E a g)(hb:lx X B E b h)(he:bE [a,b] X.env=(false,eval a X.env)::bE [b] X.env)(he2:bE [b] X.env=(false,eval b X.env)::bE [] X.env):
  gq X B E (.Call (.Name "max" p) [a,b] [] pos) (g2 Dk g h):=
 PE.imp (nu (Ry hc) hg hm (by rfl) (gw ha (gw hb ji he2) he) (by decide) (by decide) he (by rw[he2];rfl)) λZ H Q q=>SJ q
def EM(hc:X.calm=true)(hg:Gl X "min")(hm:X.mg "min"=none)(ha:lx X B E a g)(hb:lx X B E b h)(he:bE [a,b] X.env=(false,eval a X.env)::bE [b] X.env)(he2:bE [b] X.env=(false,eval b X.env)::bE [] X.env):
  gq X B E (.Call (.Name "min" p) [a,b] [] pos) (g2 Dl g h):=
 PE.imp (nu (Rz hc) hg hm (by rfl) (gw ha (gw hb ji he2) he) (by decide) (by decide) he (by rw[he2];rfl)) λZ H Q q=>SJ q
end
section
variable{prog:bQ}{w:bZ}{A:cG}{E:aC->aI->Prop}{s:aI}{r:Addr}{a b c:Int}{t u v:Tok}{n:Nat}
def Ee{R:List aC->aI->Prop}(hh:A.handled=none)(hr:IsRange s.heap r a b c t u v)(hsmall:Builtin.Range.small a b c=true)(hn:jY a b c=n)(hlen:n<=2 ^ 24)
  (h:∀(h':Heap)(tk:Nat)(acc:Array aC),(∀b o,s.heap.get? b=some o->h'.get? b=some o)->ItemsOf (λi v=>∃t,v=.int (a+i * c) t) acc n->R acc.toList {s with heap:=h',toks:=tk}):
  bA (bH prog w) A (collect (.ref r)) R E s:=by
 unfold collect;refine aA (mR (eB F.entry_proto_collect ?_));rw[dY PySem.F.plain_proto_collect _];show bA _ A.in1 (newList []>>=λl=>again (.builtin "list.__iadd__" ⟨[l,.ref r],[]⟩)) _ _ s;refine aA (cL ?_);refine aB ⟨jP PySem.F.plain_list_iadd _,eB F.entry_list_iadd ?_⟩;rw[dY PySem.F.plain_list_iadd _];have hS₁:(s.heap.push {cls:=.type "list",data:=.seq ([]:List aC).toArray}).get? s.heap.objs.size=some {cls:=.type "list",data:=.seq #[]}:=aX _ rfl;show bA _ A.in1 (Builtin.List.listExtendWith (.ref s.heap.objs.size) (.ref r) (.ref s.heap.objs.size)) _ _ _;have key:=wpAny_extend_range (A:=A) (prog:=prog) (w:=w) (s:={s with heap:=s.heap.push {cls:=.type "list",data:=.seq ([]:List aC).toArray}})
  (R:=λ(q:Result)(s':aI)=>∃(h':Heap) (tk:Nat) (acc':Array aC) (c':Nat),q=.ok (.ret (.ref s.heap.objs.size))/\s'={s with heap:=h',toks:=tk}/\
   (∀b o,s.heap.get? b=some o->h'.get? b=some o)/\h'.get? s.heap.objs.size=some {cls:=.type "list",dict:=none,data:=.seq acc' c',slots:=#[]}/\ItemsOf (λi v=>∃t,v=.int (a+i * c) t) acc' n)
  hh (aD _ hr) hsmall hn hlen s.heap.objs.size (.ref s.heap.objs.size) 0 hS₁
  (λh' tk acc' c' hk hS' hacc=>⟨h',tk,acc',c',rfl,rfl,λb o e=>hk b o (bJ (aT e)) (aD _ e),hS',hacc⟩)
 refine bU key (λfin s' x=>?_) λe s' x=>?_
 ·cases fin with
  |done f=>
   obtain⟨h',tk,acc',c',e,rfl,hk,hS',hacc⟩:=x;cases e;show bA _ A (load s.heap.objs.size>>=_) _ _ _;refine aA (wpAny_load hS' ?_);exact aB (h h' tk acc' hk hacc)
  |again c₁=>
   refine⟨x.1,eP x.2 λq s₂ y=>?_⟩;obtain⟨h',tk,acc',c',rfl,rfl,hk,hS',hacc⟩:=y;show bA _ A (load s.heap.objs.size>>=_) _ _ _;refine aA (wpAny_load hS' ?_);exact aB (h h' tk acc' hk hacc)
 ·obtain⟨_,_,_,_,e',_⟩:=x;cases e'
def yq{Q:aC->aI->Prop}(hh:A.handled=none)(hr:IsRange s.heap r a b c t u v)(hsmall:Builtin.Range.small a b c=true)(hn:jY a b c=n)(hlen:n<=2 ^ 24)
  (h:∀(h':Heap)(tk:Nat)(acc:Array aC),(∀b o,s.heap.get? b=some o->h'.get? b=some o)->ItemsOf (λi v=>∃t,v=.int (a+i * c) t) acc n->Q (.ref h'.objs.size) {s with heap:=h'.push {cls:=.type "tuple",data:=.seq acc},toks:=tk}):
  bA (bH prog w) A (call (.type "tuple") [.ref r]) Q E s:=by
 refine callType_codes (Q₁:=λobj s₁=>s₁.TypeIs obj "tuple"/\Q obj s₁) F.called_tuple (F.typeCall_tuple_1 _) F.entry_object_init ?_ λobj s₁ h₁=>?_
 ·refine jR ?_;show bA _ A.in1.in1 (do nY "tuple.__new__" ⟨[.type "tuple",.ref r],[]⟩;again (.builtin "tuple.__new__" ⟨[.type "tuple",.ref r],[]⟩)) _ _ s;refine aA (lR (F.newCall_tuple_1 _) (aB ⟨jP F.plain_tuple_new _,eB F.entry_tuple_new ?_⟩));rw[dY F.plain_tuple_new _];have hsub:=sub_tuple_self;have hinit:=init_tuple_lookup;have hmh:=madeHere_tuple;have hTI:s.TypeIs (.ref r) "range":=⟨_,hr,rfl⟩
  wp_walk using jB hTI,Ee (A:=A.in1.in1) (n:=n) (show A.in1.in1.handled=none from hh) hr hsmall hn hlen
  intro h' tk acc hk hacc;show bA _ _ (eN acc.toList.toArray>>=λv=>ret v) _ _ _;unfold eN;refine aA (cL ?_ (by show acc.toList.toArray.size<=aQ;simp only[lS];rw[hacc.1,cD];lia));refine aB ?_;have e:acc.toList.toArray=acc:=by simp
  rw[e];exact⟨⟨_,aX _ rfl,rfl⟩,h h' tk acc hk hacc⟩
 ·exact⟨h₁.1,F.args_object_init_2 obj _,object_init_meets F.called_tuple.init.lookup F.called_tuple.made (by decide) prog w A.in1 _ s₁ ⟨h₁.1,rfl,h₁.2⟩⟩
end
section
variable{X:Cx}
def RJ:List V->Hp->VK->Prop:=λxs H Q=>∃i,xs=[.int i]/\∀p,H p=none->Q (.ref p) (upd H p (.rng 0 i))
def Vd:CallR X (.type "range") RJ:=by
 intro pins s Z H xs us Q I r q;obtain⟨i,rfl,q⟩:=q;obtain⟨u,rfl,ru⟩:=mh r;obtain⟨t,rfl⟩:=ru;refine call_range_1 ⟨.ref s.heap.objs.size,_,I.laid (a:=s.heap.objs.size) (o:=.rng 0 i) (λb o e=>aD _ e) (aH _) ⟨_,_,_,aX _ rfl⟩,rfl,q _ (I.hok.fresh (aH _))⟩
def HS:List V->Hp->VK->Prop:=λxs H Q=>∃p n,xs=[.ref p]/\H p=some (.rng 0 n)/\0<=n/\n<=1000/\∀q,H q=none->Q (.ref q) (upd H q (.tup ((aW n.toNat).map λ(k:Nat)=>V.int (k:Int))))
theorem D7:∀{m k:Nat}{l:List aC},l.length=m->(∀(i:Nat)(v:aC),l[i]?=some v->∃t,v=.int ((k:Int)+(i:Int)) t)->Vals ((List.range' k m).map λ(k:Nat)=>V.int (k:Int)) l
 |0,k,l,h,_=>by cases l with
  |nil=>exact .nil
  |cons=>cases h
 |m+1,k,l,h,hv=>by cases l with
  |nil=>cases h
  |cons x l=>
   obtain⟨t,e⟩:=hv 0 x rfl;refine .cons ⟨t,by rw[e];simp⟩ (D7 (k:=k+1) (by simpa using h) λi v q=>?_);obtain⟨t',e'⟩:=hv (i+1) v q;exact⟨t',by rw[e'];congr 1;push_cast;lia⟩
def R6(hc:X.calm=true):CallR X (.type "tuple") HS:=by
 intro pins s Z H xs us Q I r q;obtain⟨p,n,rfl,hp,n0,n1,q⟩:=q;obtain⟨u,rfl,ru⟩:=mh r;cases ru;obtain⟨t,u,v,ho⟩:=I.hok p _ hp;refine yq (n:=n.toNat) (I.ok.hd hc) ho (small_one (by lia) (by lia) (by lia) (by lia)) (by rw[rangeSize_nat];simp) (by lia) λh' tk acc hk hacc=>?_;have I':Inv X pins Z H {s with heap:=h',toks:=tk}:=I.kept hk;refine⟨.ref h'.objs.size,_,I'.laid (a:=h'.objs.size) (o:=.tup ((aW n.toNat).map λ(k:Nat)=>V.int (k:Int))) (t':=tk) (λb o e=>aD _ e) (aH _) ⟨?_,acc.toList,?_,?_⟩,rfl,q _ (I'.hok.fresh (aH _))⟩
 ·rw[aO,dN,cD];lia
 ·rw[List.range_eq_range'];refine D7 (by rw[aL];exact hacc.1) λi v q=>?_;rw[bO]at q;obtain⟨t,e⟩:=hacc.2 i v q;exact⟨t,by rw[e];congr 1;lia⟩
 ·rw[lS];exact IsTup.new _ _
end
def fc:D->Option D
 |.int n=>if 0<=n/\n<=1000 then some (.tup (ah (aW n.toNat)))else none
 |_=>none
section
variable{X:Cx}{B:Hp}{E:EK}{e:Expr}{g:En->Res}{pos p pos' p':Pos}
def EL(hc:X.calm=true)(hg:Gl X "tuple")(hm:X.mg "tuple"=none)(hg':Gl X "range")(hm':X.mg "range"=none)(ha:lx X B E e g)(he:bE [e] X.env=(false,eval e X.env)::bE [] X.env):
  gq X B E (.Call (.Name "tuple" p) [.Call (.Name "range" p') [e] [] pos'] [] pos) (g1 fc g):=
 PE.imp (mw (R6 hc) hg hm kF (oq (mw Vd hg' hm' PyProof.Rows.boot_range (gw ha ji he) (by decide) (by decide) he rfl) zf rfl) (by decide) (by decide) rfl rfl) λZ H Q q=>
  IP (rr:=λxs H Q=>RJ xs H λx H1=>HS [x] H1 Q) (λG H x dx d sg ax ed Q q=>by
   unfold fc at ed;split at ed
   ·rename_i n;split at ed
    ·rename_i hn;cases ed;have ex:x=.int n:=ax.int;subst ex;refine⟨n,rfl,λp hp=>⟨p,n,rfl,ar,hn.1,hn.2,λq' hq'=>?_⟩⟩;have x1:=Ext.own sg (.rng 0 n) hp;exact q _ _ _ (x1.trans (Ext.new x1.gh (.tup ((aW n.toNat).map λ(k:Nat)=>V.int (k:Int))) hq')) (nc x1.gh hq' (yu _))
    ·cases ed
   ·cases ed) q
end
def VC(K:aU)(a:Addr):It:=
 ⟨λi H=>∃xs x,SqL K H a xs/\xs[i]?=some x,λi H v H'=>∃p x,H p=none/\v=.ref p/\H'=upd H p (.tup [.int (i:Int),x])/\∀xs,SqL K H a xs->xs[i]?=some x,λi H=>∃xs,SqL K H a xs/\xs.length<=i⟩
def ZV(e it a:Addr)(i:Nat)(h:Heap):Prop:=(∃old,IsEnum h e it (i:Int) old)/\h.IsListIter it a i
def Ug{P:bQ}{w:bZ}{K:aU}{tes:List Expr}{k1}{tp:Pos}(a e it:Addr)(hne:e≠it):Turn P w K (.Tuple tes k1 tp) (VC K a) [e,it] e (ZV e it a) where
 mem:=by simp
 obj:=λi h st b hb=>by
  obtain⟨⟨old,he⟩,o,ho,hc,hd⟩:=st;rcases List.mem_cons.mp hb with rfl|hb
  ·exact⟨_,he,λv z=>by
    have z':Data.fields _=Data.cell v:=z;cases z'⟩
  ·have e:b=it:=by simpa using hb
   subst e;exact⟨o,ho,λv z=>by rw[hd]at z;cases z⟩
 keep:=λi h h' st k=>⟨let ⟨old,he⟩:=st.1;⟨old,k e (by simp) _ he⟩,st.2.at λo q=>k it (by simp) o q⟩
 item:=by
  intro X hP hw hK hc i pins s Z H E I hf st hg;subst hP hw hK;obtain⟨xs,x,hq,hx⟩:=hg;obtain⟨its,rv,p,hz⟩:=I.list hq;obtain⟨u,hu,ru⟩:=rv.get hx;obtain⟨⟨old,he⟩,hit⟩:=st;obtain⟨f0,f1,f2,f3,f4,f5⟩:=hf e (by simp);obtain⟨g0,g1,g2,g3,g4,g5⟩:=hf it (by simp);have jM:H s.heap.objs.size=none:=I.hok.fresh (aH _);have elt:e<s.heap.objs.size:=aT he;refine wpAny_pyNext_enum_item he hit p.isList (x:=u) (by simpa using hu) hne λh1 he1 hit1 ht1 hz1 hk1=>?_;refine⟨_,rfl,wpAny_letOwnedTupleGo_enum he1 λh2 he2 sb=>?_⟩;have sb':cK e h1 h2:=sb;have k2:∀b o,b≠e->b≠it->s.heap.get? b=some o->h2.get? b=some o:=λb o h1' h2' q=>sb'.extBut b o h1' (hk1 b o h1' h2' q);have t2:h2.get? s.heap.objs.size=some {cls:=.type "tuple",data:=.seq #[.int (i:Int) s.toks,u]}:=sb'.extBut _ _ (jA elt) ht1;have old':∀{b:Addr}{o:HO},H b=some o->b≠s.heap.objs.size/\b≠e/\b≠it:=λ{b o} q=>⟨aq q jM,aq q f0,aq q g0⟩;have ch:∀b,b∉[e,it]->b≠e/\b≠it:=λb hb=>by simpa using hb
  have I2:Inv X pins Z (upd H s.heap.objs.size (.tup [.int (i:Int),x])) {s with heap:=h2,toks:=s.toks+1}:=by
   refine I.step (g':=s.gens) (d':=s.drawn) (ch:=[e,it]) (λb hb=>?_) (λb o _ _ hc q _=>k2 b o (ch b hc).1 (ch b hc).2 q) (λb o _ _ hc q _=>⟨o.slots,k2 b o (ch b hc).1 (ch b hc).2 q⟩) (λb o _ q n=>?_) (λb o hc q=>⟨o,k2 b o (ch b hc).1 (ch b hc).2 q⟩)
    (λb ys q=>by rw[ak (old' q).1];exact q) (λb o v q=>by rw[ak (old' q).1];exact q) (λb y q=>by rw[ak (old' q).1];exact q) (λm hm=>?_) (λb v q=>?_) I.bare
   ·rcases List.mem_cons.mp hb with rfl|hb
    ·exact⟨f3,f1,f4,f5⟩
    ·have z:b=it:=by simpa using hb
     subst z;exact⟨g3,g1,g4,g5⟩
   ·rw[ak (bJ (aT q))];exact n
   ·obtain⟨o,es,ep,ho,r⟩:=hm;exact⟨o,es,ep,k2 _ o (fM f1) (fM g1) ho,r⟩
   ·by_cases hb:b=s.heap.objs.size
    ·subst hb;rw[ar]at q;cases q;exact⟨by rw[cD];simp,[.int (i:Int) s.toks,u],.cons ⟨_,rfl⟩ (.cons ru .nil),_,t2,rfl,0,rfl⟩
    ·rw[ak hb]at q;refine(I.hok b v q).stay (λb' v' hb' r=>k2 b' v' ?_ ?_ r) (λb' z=>by rw[ak (old' z).1];exact z) (λb' ys z=>by rw[ak (old' z).1];exact z) λb' o' u' z=>by rw[ak (old' z).1];exact z
     ·rcases hb' with z|z
      ·rw[z];exact(old' q).2.1
      ·exact(old' z).2.1
     ·rcases hb' with z|z
      ·rw[z];exact(old' q).2.2
      ·exact(old' z).2.2
  refine⟨.ref s.heap.objs.size,_,I2,rfl,⟨_,x,jM,rfl,rfl,λys hy=>by rw[I.list_inj hy hq];exact hx⟩,⟨⟨u,?_⟩,?_⟩,λb hb=>?_⟩
  ·have:((i+1:Nat):Int)=(i:Int)+1:=by push_cast;rfl
   rw[this];exact he2
  ·exact hit1.at λo q=>sb'.extBut it o (fM hne) q
  ·have z:=(hf b hb).1;have:b<s.heap.objs.size:=by
    rcases List.mem_cons.mp hb with rfl|hb
    ·exact elt
    ·have z:b=it:=by simpa using hb
     subst z;obtain⟨o,ho,_⟩:=hit;exact aT ho
   rw[ak (bJ this)];exact z
 done:=by
  intro X hP hw hK hc i pins s Z H E I hf st hg;subst hP hw hK;obtain⟨xs,hq,hx⟩:=hg;obtain⟨its,rv,p,hz⟩:=I.list hq;obtain⟨⟨old,he⟩,hit⟩:=st;obtain⟨g0,g1,g2,g3,g4,g5⟩:=hf it (by simp);have hl:=rv.length;exact wpAny_pyNext_enum_end (I.ok.hd hc) he hit p.isList (by simp;lia) λh' eb=>⟨rfl,I.turned (t':=s.toks) (λb o hb e=>eb b o hb e) g0 g1 g3 g4 g5⟩
 self:=λ_ _ _ _ _ st h=>let ⟨_,he⟩:=st.1;kX he h
def je:Nat->List D->List D
 |_,[]=>[]
 |i,d::r=>.tup [.int (i:Int),d]::je (i+1) r
theorem yy:∀(i:Nat)(ds:List D),(je i ds).length=ds.length
 |_,[]=>rfl
 |i,d::r=>by rw[je,aE,aE,yy]
theorem yx:∀(i j:Nat)(ds:List D),(je i ds)[j]?=(ds[j]?).map λd=>.tup [.int ((i+j:Nat):Int),d]
 |_,_,[]=>by simp[je]
 |i,0,d::r=>by simp[je]
 |i,j+1,d::r=>by
  rw[je,aR,aR,yx (i+1) j r];rw[show i+1+j=i+(j+1) by lia]
section
variable{X:Cx}{B:Hp}{E:EK}{e:Expr}{g:En->Res}{pos p tp:Pos}{tes:List Expr}{k1:Nat}
def Wq{K:KA}{a:Addr}{G1:Hp}{ds:List D}{vs:List V}{S:Hp->Hp->Prop}(h:∀G H,S G H->Same G H->SqL K H a vs/\Same G1 G)(dl:DenL K G1 ds vs):Aq K (VC K a) (je 0 ds) S:=λi G H hS sg=>by
 obtain⟨q,g⟩:=h G H hS sg;refine⟨λd ed=>?_,λhl=>⟨vs,q,by rw[yy]at hl;rw[<-dl.length];exact hl⟩⟩;rw[yx,mF]at ed;cases e0:ds[i]? with
 |none=>rw[e0]at ed;cases ed
 |some d0=>
  rw[e0]at ed;cases ed;obtain⟨v,ev,dv⟩:=dl.get e0;refine⟨⟨vs,v,q,ev⟩,λx H' ⟨p,y,hp,e1,e2,e3⟩=>?_⟩;subst e1 e2;have z:=e3 vs q;rw[ev]at z;cases z;exact⟨_,Ext.new sg (.tup [.int (i:Int),v]) hp,nc sg hp (DenL.append (DenL.one (d:=.int (i:Int)) rfl) (DenL.one (dv.mono g)))⟩
end
end Pu
end
section
namespace L2
open PySem PySem.Spec PyProof.Rows
def Inv.adopt{X:Cx}{pins:List (Addr×Obj)}{Z:List (Option V)}{H:Hp}{s:aI}{b:Addr}{o:HO}{h':Heap}{t':Nat}(I:Inv X pins Z H s)(fp:yk X pins H b)(k:∀c u,c≠b->s.heap.get? c=some u->h'.get? c=some u)(new:ObjOk X.prog X.w (upd H b o) h' b o):
  Inv X pins Z (upd H b o) {s with heap:=h',toks:=t'}:=by
 obtain⟨f0,f1,f2,f3,f4,f5⟩:=fp;refine I.call (g':=s.gens) (d':=s.drawn) (ch:=[b]) ⟨λc u e n _ x=>k c u (by simpa using x) e,λc u e n _ x=>⟨u.slots,k c u (by simpa using x) e⟩,λc u e n x=>?_,λc u e x=>⟨u,k c u (by simpa using x) e⟩,λc xs e=>?_,λc ob u e=>?_,λc q e=>?_⟩ (λc u e=>?_) I.bare λc hc=>?_
 ·rw[ak (by simpa using x)];exact n
 ·rw[ak (aq e f0)];exact e
 ·rw[ak (aq e f0)];exact e
 ·rw[ak (aq e f0)];exact e
 ·by_cases z:c=b
  ·subst z;rw[ar]at e;cases e;exact new
  ·rw[ak z]at e;refine(I.hok c u e).stay (λc' u' hc' q=>k c' u' ?_ q) (λc' q=>by rw[ak (aq q f0)];exact q) (λc' xs q=>by rw[ak (aq q f0)];exact q) λc' ob u' q=>by rw[ak (aq q f0)];exact q
   rcases hc' with y|y
   ·rw[y];exact z
   ·exact aq y f0
 ·obtain rfl:c=b:=by simpa using hc
  exact⟨f3,f1,f4,f5⟩
end L2
namespace Pu
open PySem PySem.Spec PyProof.Rows L2 PySem.SeqAt PySem.W
def i4(T:GT)(l:Expr)(fs:List (Str×D)):List D->Option (List D)
 |[]=>some []
 |d::ds=>match T.lam l fs [d],i4 T l fs ds with
  |.ok k,some r=>some (k::r)
  |_,_=>none
def xn{T:GT}{l:Expr}{fs:List (Str×D)}{d:D}{ds ks:List D}(h:i4 T l fs (d::ds)=some ks):∃k r,T.lam l fs [d]=.ok k/\i4 T l fs ds=some r/\ks=k::r:=by
 unfold i4 at h;cases e1:T.lam l fs [d]with
 |ok k=>
  cases e2:i4 T l fs ds with
  |none=>rw[e1,e2]at h;cases h
  |some r=>rw[e1,e2]at h;cases h;exact⟨k,r,rfl,rfl,rfl⟩
 |er c=>rw[e1]at h;cases h
 |st=>rw[e1]at h;cases h
theorem Ag{T:GT}{l:Expr}{fs:List (Str×D)}:∀{ds ks:List D},i4 T l fs ds=some ks->ks.length=ds.length
 |[],ks,h=>by cases h;rfl
 |d::ds,ks,h=>by
  obtain⟨k,r,_,h2,rfl⟩:=xn h;rw[aE,aE,Ag h2]
def Zs:D->Option (List Int)
 |.tup ds=>ti ds
 |_=>none
def Xq(ds:List D):Option (List Int):=match ds with
 | [a, b] => (match Np a, Zs b with
  |some i,some c=>some (i::c)
  |_,_=>none)
 |_=>none
def Ww:D->Option (List Int)
 |.tup ds=>Xq ds
 |_=>none
def pf:List D->Option (List (List Int))
 |[]=>some []
 |d::ds=>match Ww d,pf ds with
  |some k,some r=>some (k::r)
  |_,_=>none
def BN{d:D}{i:Int}(h:Np d=some i):d=.int i:=by
 cases d<;>first|(cases h;rfl)|cases h
def GZ{d:D}{c:List Int}(h:Zs d=some c):d=.tup (c.map D.int):=by
 cases d with
 |tup ds=>rw[Cj (show ti ds=some c from h)]
 |_=>cases h
def BD{d:D}{k:List Int}(h:Ww d=some k):∃i c,k=i::c/\d=.tup [.int i,.tup (c.map D.int)]:=by
 cases d with
 |tup ds=>
  have h:Xq ds=some k:=h;unfold Xq at h;split at h
  ·rename_i a b _;cases e1:Np a with
   |none=>rw[e1]at h;cases h
   |some i=>
    cases e2:Zs b with
    |none=>rw[e1,e2]at h;cases h
    |some c=>rw[e1,e2]at h;cases h;exact⟨i,c,rfl,by rw[BN e1,GZ e2]⟩
  ·cases h
 |_=>cases h
def Cu{d:D}{ds:List D}{kz:List (List Int)}(h:pf (d::ds)=some kz):∃k r,Ww d=some k/\pf ds=some r/\kz=k::r:=by
 unfold pf at h;cases e1:Ww d with
 |none=>rw[e1]at h;cases h
 |some k=>
  cases e2:pf ds with
  |none=>rw[e1,e2]at h;cases h
  |some r=>rw[e1,e2]at h;cases h;exact⟨k,r,rfl,rfl,rfl⟩
theorem Fu:∀{ds:List D}{kz:List (List Int)},pf ds=some kz->kz.length=ds.length
 |[],kz,h=>by cases h;rfl
 |d::ds,kz,h=>by
  obtain⟨k,r,_,h2,rfl⟩:=Cu h;rw[aE,aE,Fu h2]
section
variable{X:Cx}{pins:List (Addr×Obj)}{Z:St}{G H:Hp}{s:aI}
theorem Fw(I:Inv X pins Z H s)(sg:Same G H):∀{ds:List D}{kz:List (List Int)}{vs:List V}{us:List aC},pf ds=some kz->DenL (kx X) G ds vs->Vals vs us->KeysAre s 1 us kz
 |[],kz,vs,us,h,dl,r=>by
  cases h;cases (show vs=[]from dl);cases r;trivial
 |d::ds,kz,vs,us,h,dl,r=>by
  obtain⟨k,r',h1,h2,rfl⟩:=Cu h;obtain⟨v,vr,rfl,dv,dr⟩:=dl;obtain⟨i,c,rfl,rfl⟩:=BD h1;cases r with
  |cons rv rr=>
   refine⟨?_,Fw I sg h2 dr rr⟩;have e:fk (.tup [.int i,.tup (c.map D.int)])=some (.tuple [.int i,.tuple (c.map bY)]):=by
    rw[fk,d8,fk,d8,fk,zq,d8]
   obtain⟨as,ra⟩:=x8 I sg dv rv e;exact⟨_,as,ra,i,c,rfl,rfl⟩
end
def t8(ks ds:List D):Option (List D):=if ds.length<2 then some ds else(match pf ks with
 |some kz=>if ds.length<64/\kz.Nodup then some ((lu (kz.zip ds)).map (·.2))else none
 |none=>none)
def T7{ks ds r:List D}(h:t8 ks ds=some r):(ds.length<2/\r=ds)\/(2<=ds.length/\∃kz,pf ks=some kz/\ds.length<64/\kz.Nodup/\r=(lu (kz.zip ds)).map (·.2)):=by
 unfold t8 at h
 by_cases h2:ds.length<2
 ·rw[aG h2]at h;cases h;exact .inl ⟨h2,rfl⟩
 ·rw[aJ h2]at h;cases hk:pf ks with
  |none=>rw[hk]at h;cases h
  |some kz=>
   rw[hk]at h;dsimp only at h
   by_cases c:ds.length<64/\kz.Nodup
   ·rw[aG c]at h;cases h;exact .inr ⟨by lia,kz,rfl,c.1,c.2,rfl⟩
   ·rw[aJ c]at h;cases h
structure ExtB(k:Addr)(G H G' H':Hp):Prop where
 gg:Same G G'
 hh:∀b o,b≠k->H b=some o->H' b=some o
 gh:Same G' H'
 fr:∀a o,a≠k->H a=some o->G a=none->WH o=true->G' a=none
theorem ExtB.trans{k:Addr}{G H G1 H1 G2 H2:Hp}(a:ExtB k G H G1 H1)(b:ExtB k G1 H1 G2 H2):ExtB k G H G2 H2:=
 ⟨a.gg.trans b.gg,λc o n e=>b.hh c o n (a.hh c o n e),b.gh,λc o n e q z=>b.fr c o n (a.hh c o n e) (a.fr c o n e q z) z⟩
section
variable{T:GT}{ev:Ev}{X:Cx}{C:SC}{B:Hp}{E:XK}{pins:List (Addr×Obj)}{Z:St}
def V0{H:Hp}{s:aI}(I:Inv X pins Z H s):Env0 X.prog X.w X.K X.mg X.base X.A.in1.in1 X.stack s H:=by
 obtain⟨a1,a2,a3,a4,a5,a6,a7,a8⟩:=I.env0;exact⟨a1,a2,a3,a4,a5,a6,a7,a8⟩
theorem Kq{E':aC->aI->Prop}(O:XOk X C T E){l:Expr}{fs:List (Str×D)}{f kS:Addr}{body:aC->PUnit->Sem (ForInStep PUnit)}
  (hb:∀(x:aC)(s:aI)(R:ForInStep PUnit->aI->Prop),bA (bH X.prog X.w) X.A.in1.in1 (call (.ref f) [x]) (λk s'=>bA (bH X.prog X.w) X.A.in1.in1 (Builtin.List.listUpdate (.ref kS) (·.push k)) (λ_ s''=>R (.yield ⟨⟩) s'') E' s') (λ_ _=>False) s->bA (bH X.prog X.w) X.A.in1.in1 (body x ⟨⟩) R E' s):
  ∀(ds ks:List D)(vs:List V)(us:List aC)(kd:List D)(kv:List V)(G H:Hp)(s:aI),Inv X pins Z H s->Same G H->GOk H->G kS=none->H kS=some (.lst kv)->DenL (kx X) G kd kv->Den (kx X) G (.obj l fs) (.ref f)->DenL (kx X) G ds vs->Vals vs us->i4 T l fs ds=some ks->kv.length+us.length<=1000->
   bA (bH X.prog X.w) X.A.in1.in1 (forIn us PUnit.unit body) (λ_ s'=>∃G' H' kv',Inv X pins Z H' s'/\ExtB kS G H G' H'/\G' kS=none/\H' kS=some (.lst kv')/\DenL (kx X) G' (kd++ks) kv') E' s
 |[],ks,vs,us,kd,kv,G,H,s,I,sg,gb,gk,hk,dk,df,dl,rv,hks,hz=>by
  cases (show vs=[]from dl);cases rv;cases hks;rw[List.forIn_nil,cA];exact aB ⟨G,H,kv,I,⟨Same.refl G,λ_ _ _ e=>e,sg,λ_ _ _ _ n _=>n⟩,gk,hk,dk⟩
 |d::ds,ks,vs,us,kd,kv,G,H,s,I,sg,gb,gk,hk,dk,df,dl,rv,hks,hz=>by
  obtain⟨k,r,h1,h2,rfl⟩:=xn hks;obtain⟨v,vr,rfl,dv,dr⟩:=dl;cases rv with
  |@cons _ u _ ur ru rr=>
  rw[List.forIn_cons];obtain⟨n,hr,run⟩:=O.lams l fs [d] k h1;refine aA (hb u s _ (mJ (eP (run X.A.in1.in1 X.stack s H G f [u] [v] (λw H'=>∃G',Ext G H G' H'/\Den (kx X) G' k w) (RoomL.in2 hr) (V0 I) gb sg df ⟨v,[],rfl,dv,rfl⟩ (.cons ru .nil) λw G' H' e dn=>⟨G',e,dn⟩) λrr' s' hq=>?_)));cases rr' with
  |error x=>
   obtain⟨_,_,_,_,_,_,_,_,_,z⟩:=(show Ew X.prog X.w X.stack H s E0 x s' from hq);exact z.elim
  |ok fl=>
   cases fl with
   |ret ku=>
    obtain⟨w,H1,I1,rw1,G1,e1,dn⟩:=I.after hq;have hk1:=e1.hh _ _ hk;have gk1:=e1.fr _ _ hk gk rfl;obtain⟨z1,its,ep,r1,zl,ho⟩:=I1.lstM hk1;have lz:kv.length+(ur.length+1)<=1000:=by simpa using hz
    have szl:(1000:Nat)<=aQ:=by rw[cD];lia
    refine iI ho rfl ?_ (by rw[bC];lia) (by rw[Array.size_push,bC];lia);have hv:Vals (kv++[w]) (its++[ku]):=r1.append (.cons rw1 .nil);have I2:=I1.lset (f:=(·.push ku)) (its':=its++[ku]) (ys:=kv++[w]) (t':=s'.toks) hk1 ho (by simp) hv (by rw[aZ,iJ];lia);have sg2:Same G1 (upd H1 kS (.lst (kv++[w]))):=λb o q=>by
     rw[ak (aq q gk1)];exact e1.gh _ _ q
    have gb2:GOk (upd H1 kS (.lst (kv++[w]))):=λp hp=>by
     have:=e1.hh _ _ (gb p hp);rw[ak (λz=>by rw[z,hk1]at this;cases this)];exact this
    have dk2:DenL (kx X) G1 (kd++[k]) (kv++[w]):=(dk.mono e1.gg).append ⟨w,[],rfl,dn,rfl⟩;have ih:=Kq (E':=E') O hb ds r vr ur (kd++[k]) (kv++[w]) G1 _ _ I2 sg2 gb2 gk1 ar dk2 (df.mono e1.gg) (dr.mono e1.gg) rr h2 (by rw[aZ,iJ];lia);refine bU ih (λ_ s3 g=>?_) λ_ _ x=>x;obtain⟨G',H',kv',g1,g2,g3,g4,g5⟩:=g;refine⟨G',H',kv',g1,ExtB.trans ⟨e1.gg,λb o n q=>?_,sg2,λa o n q1 q2 q3=>e1.fr _ _ q1 q2 q3⟩ g2,g3,g4,?_⟩
    ·rw[ak n];exact e1.hh _ _ q
    ·rw[dM]at g5;exact g5
   |next=>exact eR hq
   |brk=>exact eR hq
   |cont=>exact eR hq
end
end Pu
end
section
namespace Pu
open PySem PySem.Spec PyProof.Rows L2 PySem.SeqAt PySem.W
section
variable{prog:bQ}{w:bZ}{A:cG}{E:aC->aI->Prop}{s:aI}
def Vz(h:Heap)(kS nL:Addr)(out:List aC):Heap:=(h.update kS (gH λ_=>(#[]:Array aC))).update nL (gH λ_=>out.toArray)
def D2{nL kS:Addr}{e1 m:Nat}{keys:Array aC}{st:SortSt}{out:List aC}{P:PySem.Fin->aI->Prop}(hn:s.heap.get? nL=some (dP "list" #[] e1))(hk:s.heap.get? kS=some (dP "list" keys m))(ne:nL≠kS)(hout:(arrOf st).map (·.2)=out.toArray)(hf:failedOf st=none)
  (hz:out.length<=1000)(hkz:keys.size<=1000)(h:P (.done (.ret .none)) {s with heap:=Vz s.heap kS nL out}):bA (bH prog w) A (ksk_tail nL false e1 (.ref kS) st) P E s:=by
 have szl:(1000:Nat)<=aQ:=by rw[cD];lia
 have hn1:(s.heap.update kS (gH λ_=>(#[]:Array aC))).get? nL=some (dP "list" #[] e1):=by
  rw[fW _ _ _ _ ne];exact hn
 unfold ksk_tail
 try dsimp only
 rw[hout];refine aA (iI hk rfl (aA (wpAny_letGo ?_)) (by lia) (bX _));refine aA (nG hn1 rfl (aA (iI hn1 rfl ?_ (bX _) (cB (eQ (bC ..)) (by lia)))));rw[hf];simp only[bne_self_eq_false,Bool.false_eq_true,if_false];exact aB h
def Sk{nL kS:Addr}{e1 m:Nat}{ks its:List aC}{R:Array Nat->Prop}{P:PySem.Fin->aI->Prop}(hn:s.heap.get? nL=some (dP "list" #[] e1))(hk:s.heap.get? kS=some (dP "list" ks.toArray m))(ne:nL≠kS)(hl:ks.length=its.length)(hz:its.length<=1000)
  (hR:2<=its.length->wo prog w A ks its R s)(h:∀out:List aC,OutOf R its out->P (.done (.ret .none)) {s with heap:=Vz s.heap kS nL out}):bA (bH prog w) A (ksk_end nL false its.toArray e1 (.ref kS) ks.toArray) P E s:=by
 unfold ksk_end
 try dsimp only
 simp only[Bool.false_eq_true,if_false];have kz:ks.toArray.size<=1000:=by rw[bC];lia
 by_cases h2:its.toArray.size<2
 ·have h2':its.length<2:=by simpa using h2
  rw[aG h2,aG h2];refine aA (aB ?_);rw[StateT.run_pure];refine aA (aB ?_);dsimp only;have em:Array.map (λx:Keyed=>x.2) (ks.toArray.zip its.toArray)=its.toArray:=by
   apply Array.toList_inj.mp;rw[nX,Array.toList_zip];exact List.map_snd_zip (eQ hl.symm)
  exact D2 hn hk ne em rfl (by lia) kz (h its (.inl ⟨h2',rfl⟩))
 ·have h2':2<=its.length:=by simpa using h2
  rw[aJ h2,aJ h2];refine aA (bU (hR h2' _) (λκ s' g=>?_) λ_ _ x=>x);obtain⟨rfl,g⟩:=g;refine aA (bU (g _) (λr s' g=>?_) λ_ _ x=>x);obtain⟨rfl,hf,p,hp,hs,ho⟩:=g;obtain⟨⟨⟩,st⟩:=r;dsimp only at hf ho⊢;exact D2 hn hk ne ho hf (by rw[aO,aL,hs];exact hz) kz (h _ (.inr ⟨h2',p,hp,hs,rfl⟩))
end
section
variable{T:GT}{ev:Ev}{X:Cx}{C:SC}{B:Hp}{E:XK}{pins:List (Addr×Obj)}{Z:St}
def Mx{E':aC->aI->Prop}(O:XOk X C T E){a f:Addr}{vs:List V}{G H:Hp}{s:aI}{ds ks r:List D}{l:Expr}{fs:List (Str×D)}{Q:VK}(I:Inv X pins Z H s)(gb:GOk H)(sg:Same G H)(sq:SqL X.K H a vs)(dl:DenL (kx X) G ds vs)(df:Den (kx X) G (.obj l fs) (.ref f))(hk:i4 T l fs ds=some ks)(hr:t8 ks ds=some r)(hz:ds.length<=1000)
  (q:∀p vs' G' H',Ext G H G' H'->H' p=none->DenL (kx X) G' r vs'->Q (.ref p) (upd H' p (.lst vs'))):bA (bH X.prog X.w) X.A (call (.builtin "sorted") [.ref a] [(fX "key",.ref f)]) (EP X pins Z Q) E' s:=by
 obtain⟨its,rv,pl,_⟩:=I.list sq;have n1:its.length=vs.length:=rv.length.symm;have n2:vs.length=ds.length:=dl.length.symm;have nk:=Ag hk;have szl:(1000:Nat)<=aQ:=by rw[cD];lia
 have zl:its.length<=aQ:=by lia
 refine call_function_entry_kw kind_sorted plain_sorted entry_sorted (ksk_s1 _ _) ?_;unfold Builtin.«sorted»;refine aA (m:=checkCount "sorted" 1 1 _) (aB (aA (collect_list pl.isList (aA (lK ?_ zl)) zl)));generalize hh1:(s.heap.push (dP "list" #[] 0)).update s.heap.objs.size (gH (· ++its.toArray))=h1;have k1:∀b o,s.heap.get? b=some o->h1.get? b=some o:=λb o e=>by
  rw[<-hh1,fW _ _ _ _ (bJ (aT e))];exact aD _ e
 have hsz:s.heap.objs.size<=h1.objs.size:=by rw[<-hh1,lE,size_push'];lia
 have hoL:(h1.push (dP "list" its.toArray 0)).get? h1.objs.size=some (dP "list" its.toArray 0):=aX _ rfl;have k2:∀b o,s.heap.get? b=some o->(h1.push (dP "list" its.toArray 0)).get? b=some o/\b≠h1.objs.size:=λb o e=>⟨aD _ (k1 b o e),bJ (bI (aT e) hsz)⟩;refine aA (cM (wpAny_call_entry_kw slot_list_sort ⟨_,hoL,rfl⟩ oR ?_ (ksk_l1 _ _)));rw[ksk_t1];obtain⟨e1,ho1⟩:∃e1,((h1.push (dP "list" its.toArray 0)).update h1.objs.size (gH λ_=>(#[]:Array aC))).get? h1.objs.size=some (dP "list" #[] e1):=⟨_,oS hoL λ_=>#[]⟩;generalize hh3:(h1.push (dP "list" its.toArray 0)).update h1.objs.size (gH λ_=>(#[]:Array aC))=h3 at ho1;have k3:∀b o,s.heap.get? b=some o->h3.get? b=some o:=λb o e=>by
  rw[<-hh3,fW _ _ _ _ (k2 b o e).2];exact(k2 b o e).1
 have hsz3:h1.objs.size<h3.objs.size:=aT ho1;unfold ksk_tree;refine aA (listItems_at hoL rfl (aA (iI hoL rfl ?_ (by rw[bC];exact zl) (bX _))));show bA _ _ _ _ _ {s with heap:=_};rw[hh3];refine aA (nG ho1 rfl (aA (wpAny_newTuple (aA (lK (cM ?_) (bX _))) zl)));have I4:Inv X pins Z H {s with heap:=h3.push (dP "tuple" its.toArray 0)}:=I.kept (t':=s.toks) λb o e=>aD _ (k3 b o e);have jM:H h1.objs.size=none:=I.hok.fresh hsz;obtain⟨f0,f1,f2,f3,f4,f5⟩:=I.fpOk hsz jM;have hn4:(h3.push (dP "tuple" its.toArray 0)).get? h1.objs.size=some (dP "list" #[] e1):=aD _ ho1;have I5:Inv X (pins++[(h1.objs.size,dP "list" #[] e1)]) Z H {s with heap:=h3.push (dP "tuple" its.toArray 0)}:=I4.pins_of λp hp=>by
  rcases List.mem_append.mp hp with hp|hp
  ·exact I4.pin p (bT _ hp)
  ·obtain rfl:p=(h1.objs.size,dP "list" #[] e1):=by simpa using hp
   exact⟨hn4,f0,f1,f2,λv z=>by cases z⟩
 generalize hkS:(h3.push (dP "tuple" its.toArray 0)).objs.size=kS at *;have hk4:H kS=none:=by rw[<-hkS];exact I4.fresh
 have neK:h1.objs.size≠kS:=by rw[<-hkS,size_push'];exact bJ (gV hsz3)
 have I6:=I5.lnew (its:=[]) (ys:=[]) (t':=s.toks) .nil (bX _);change Inv X (pins++[(h1.objs.size,dP "list" #[] e1)]) Z (upd H (h3.push (dP "tuple" its.toArray 0)).objs.size (.lst [])) {s with heap:=(h3.push (dP "tuple" its.toArray 0)).push (dP "list" #[] 0)}at I6;rw[hkS]at I6;have x6:=Ext.own sg (.lst []) hk4;show bA _ _ (ksk_rest h1.objs.size (.ref f) false its.toArray e1 (.ref kS)) _ _ {s with heap:=(h3.push (dP "tuple" its.toArray 0)).push (dP "list" #[] 0)};unfold ksk_rest;refine aA (jS ?_);rw[List.forIn_toArray];have gk:G kS=none:=by
  cases z:G kS with
  |none=>rfl
  |some o=>have:=sg _ _ z;rw[hk4]at this;cases this
 have gb6:GOk (upd H kS (.lst [])):=λp hp=>x6.hh _ _ (gb p hp);refine aA (bU (Kq O (f:=f) (kS:=kS) (λx s' R' hx=>?_) ds ks vs its [] [] G _ _ I6 x6.gh gb6 gk ar (show DenL (kx X) G [] []from rfl) df dl rv hk (by simp;lia)) (λ_ s' g=>?_) λ_ _ x=>x)
 ·refine aA (lJ (bU hx (λk s'' hk'=>?_) λ_ _ z=>z.elim));exact aA (bU hk' (λ_ _ z=>aB z) λ_ _ z=>z)
 obtain⟨G',H',kv,I7,x7,gk7,hk7,dk⟩:=g;obtain⟨z7,kus,m,rk,lk,hok⟩:=I7.lstM hk7;rw[fH]at dk;have lkk:kus.length=its.length:=by rw[<-lk,<-dk.length,nk,n1,n2]
 refine aA (listItems_at hok rfl ?_);have hn7:=(I7.pin (h1.objs.size,dP "list" #[] e1) (bT _ (bT _ (by simp)))).1;have hnH7:=(I7.pin (h1.objs.size,dP "list" #[] e1) (bT _ (bT _ (by simp)))).2.1;have so:=T7 hr;refine Sk (R:=λp=>PermR its.length p/\∃kz,pf ks=some kz/\kz.Nodup/\So (ux kz) p its.length/\r=(lu (kz.zip ds)).map (·.2)) hn7 hok neK lkk (by lia) (λh2=>?_) λout ho=>⟨_,rfl,aB ⟨_,rfl,?_⟩⟩
 ·rcases so with ⟨z,_⟩|⟨_,kz,hkz,h64,nd,hd⟩
  ·lia
  ·have ka:=Fw I7 x7.gh hkz dk rk;have un:X.A.in1.in1.units+1<eL:=by have:=O.units;show X.A.units+1+1+1<eL;lia
   have run:wo X.prog X.w X.A.in1.in1 kus its (λp=>PermR its.length p/\So (ux kz) p its.length) s':=by
    exact Yv lkk ka h2 (by lia) nd un
   intro E2;refine bU (run E2) (λκ s2 g=>⟨g.1,λE3=>bU (g.2 E3) (λr s3 g2=>?_) λ_ _ x=>x⟩) λ_ _ x=>x;obtain⟨g1,g2,p,⟨g3,g4⟩,g5,g6⟩:=g2;exact⟨g1,g2,p,⟨g3,kz,hkz,nd,g4,hd⟩,g5,g6⟩
 ·have key:∃vs',DenL (kx X) G' r vs'/\Vals vs' out:=by
   have dl':=dl.mono x7.gg;rcases ho with ⟨z,rfl⟩|⟨z,p,⟨hp,kz,hkz,nd,hs,hd⟩,hps,rfl⟩
   ·rcases so with ⟨_,rfl⟩|⟨z2,_⟩
    ·exact⟨vs,dl',rv⟩
    ·lia
   ·have hp':PermR ds.length p:=by rw[<-n2,<-n1];exact hp
    have hs':So (ux kz) p ds.length:=by rw[<-n2,<-n1];exact hs
    have lt:∀i∈p.toList,i<ds.length:=λi hi=>List.mem_range.mp (hp'.mem_iff.mp hi);rw[hd,<-F3 ((Fu hkz).trans nk) nd hp' hs'];exact⟨_,Gy dl' lt,Iw rv λi hi=>by rw[n2];exact lt i hi⟩
  obtain⟨vs',d',v'⟩:=key;have I8:=I7.unpinned;have I9:=I8.lset (f:=λ_=>#[]) (its':=[]) (ys:=[]) (t':=s'.toks) hk7 hok rfl .nil (bX _);have hnH9:upd H' kS (.lst []) h1.objs.size=none:=by rw[ak neK];exact hnH7
  have hn9:(s'.heap.update kS (gH λ_=>(#[]:Array aC))).get? h1.objs.size=some (dP "list" #[] e1):=by
   rw[fW _ _ _ _ neK];exact hn7
  obtain⟨ep,hat⟩:∃ep,(Vz s'.heap kS h1.objs.size out).get? h1.objs.size=some (dP "list" out.toArray ep):=⟨_,oS hn9 λ_=>out.toArray⟩;have zo:vs'.length<=aQ:=by rw[v'.length,ho.len];exact zl
  have I10:=I9.adopt (b:=h1.objs.size) (o:=.lst vs') (h':=Vz s'.heap kS h1.objs.size out) (t':=s'.toks) ⟨hnH9,f1,f2,f3,f4,f5⟩ (λc u n e=>by unfold Vz;rw[fW _ _ _ _ n];exact e) ⟨zo,out,ep,v',hat⟩;have xe:Ext G H G' (upd H' kS (.lst [])):=by
   refine⟨x7.gg,λb o e=>?_,λb o e=>?_,λb o e n z=>?_⟩
   ·have nb:b≠kS:=aq e hk4;rw[ak nb];exact x7.hh b o nb (by rw[ak nb];exact e)
   ·rw[ak (aq e gk7)];exact x7.gh _ _ e
   ·have nb:b≠kS:=aq e hk4;exact x7.fr b o nb (by rw[ak nb];exact e) n z
  exact⟨.ref h1.objs.size,_,I10,rfl,q _ vs' G' _ xe hnH9 d'⟩
end
def t9(T:GT)(d c:D):Option D:=match d with
 | .lst ds => (match c with
  | .obj l fs => (match i4 T l fs ds with
   |some ks=>if ds.length<=1000 then(t8 ks ds).map .lst else none
   |none=>none)
  |_=>none)
 |_=>none
def T8{T:GT}{d c d':D}(h:t9 T d c=some d'):∃ds l fs ks r,d=.lst ds/\c=.obj l fs/\i4 T l fs ds=some ks/\ds.length<=1000/\t8 ks ds=some r/\d'=.lst r:=by
 unfold t9 at h;cases d with
 |lst ds=>
  cases c with
  |obj l fs=>
   dsimp only at h;cases hk:i4 T l fs ds with
   |none=>rw[hk]at h;cases h
   |some ks=>
    rw[hk]at h;dsimp only at h
    by_cases z:ds.length<=1000
    ·rw[aG z]at h;cases hs:t8 ks ds with
     |none=>rw[hs]at h;cases h
     |some r=>rw[hs]at h;cases h;exact⟨ds,l,fs,ks,r,rfl,rfl,hk,z,hs,rfl⟩
    ·rw[aJ z]at h;cases h
  |_=>cases h
 |_=>cases h
def s8(T:GT)(g k:En->Res):En->Res:=λU=>(g U).bind λd=>(k U).bind λc=>Res.of (t9 T d c)
section
variable{T:GT}{ev:Ev}{X:Cx}{C:SC}{B:Hp}{E:XK}{e body:Expr}{params:lC}{scope:eI}{pos p lp kp:Pos}
def Yi(h:jc T ev)(O:XOk X C T E)(hg:Gl X "sorted")(hn:ja e=true):gq X B (ek (kx X) E) (.Call (.Name "sorted" p) [e] [⟨some "key",.Lambda params body scope lp,kp⟩] pos) (s8 T (og ev C e) (Ke C params body scope lp)):=by
 intro pins s Z H Q I ⟨G,U,R,q⟩;unfold s8 at q;refine eS (vw I hg (O.bl _ (by decide)) PyProof.Rows.boot_sorted ?_ (by decide) (by decide));have he:bE [e] X.env=(false,eval e X.env)::bE [] X.env:=bc hn;have PA1:=gw (eu (B:=B) (E:=E) h O e) ji he;refine callWith_kw (i7 (PA1 pos pins s Z H (λvs H1=>∃d v G1,vs=[v]/\Ext G H G1 H1/\Arg (kx X) G1 H1 d v/\og ev C e U=.ok d) I ⟨G,U,R,?_⟩) λus s1 ⟨vs,H1,I1,r1,d,v,G1,hv,e1,ad,eg⟩=>?_) (by rw[he];rfl) (by rw[he];rfl)
 ·unfold ae ai;cases eg:og ev C e U with
  |er c=>rw[eg]at q;exact q
  |st=>rw[eg]at q;exact q
  |ok d=>
   intro vs G' H' e1 al;obtain⟨v,rfl,ad⟩:=ArgsM.one al;exact⟨d,v,G',rfl,e1,ad,rfl⟩
 subst hv;obtain⟨u,rfl,ru⟩:=mh r1;rw[eg]at q;have q:ResP (ek (kx X) E) G H ((Ke C params body scope lp U).bind λc=>Res.of (t9 T d c)) _:=q;refine kws_cons (i7 (Yg (B:=B) (E:=ek (kx X) E) (params:=params) (body:=body) (scope:=scope) (pos:=lp) O pins s1 Z H1 (λf H2=>∃c G2,Ext G1 H1 G2 H2/\Den (kx X) G2 c f/\Ke C params body scope lp U=.ok c) I1 ⟨G1,U,R.ext e1,?_⟩) λf s2 ⟨fv,H2,I2,r2,c,G2,e2,df,ek'⟩=>kws_nil ?_)
 ·cases ek':Ke C params body scope lp U with
  |er c=>rw[ek']at q;exact λG' H' e2=>q G' H' (e1.trans e2)
  |st=>rw[ek']at q;exact q
  |ok c=>exact λf G' H' e2 df=>⟨c,G',e2,df,rfl⟩
 rw[ek']at q;obtain⟨d',ed,q⟩:=ResP.of (show ResP (ek (kx X) E) G H (Res.of (t9 T d c)) _ from q);obtain⟨ds,l,fs,ks,r,rfl,rfl,hk,hz,hs,rfl⟩:=T8 ed;have e12:=e1.trans e2;obtain⟨a,vs,rfl,sq,dl⟩:=(ad.ext e2).lst e2.gh;cases ru;have df':=df;obtain⟨fa,lvs,rfl,la,dF⟩:=df';cases r2;refine i7 (Mx O I2 (R.gb.same (R.bh.trans e12.hh)) e2.gh sq dl df hk hs hz λp vs' G' H' e3 hp dn=>q (.ref p) (upd G' p (.lst vs')) _ ((e12.trans e3).trans (Ext.new e3.gh _ hp)) (sr e3.gh hp dn)) λ_ _ z=>z
end
end Pu
end
section
namespace Pu
open PySem PySem.Spec PyProof.Rows L2
def RA:D->Option (List D)
 |.lst ds=>some ds
 |_=>none
def Cd(g:En->Res):En->ResL:=λU=>match g U with
 | .ok d => (match RA d with
  |some ds=>.ok (je 0 ds)
  |none=>.st)
 |.er c=>.er c
 |.st=>.st
section
variable{X:Cx}{B:Hp}{E:EK}{e:Expr}{g:En->Res}{pos p tp:Pos}{tes:List Expr}{k1:Nat}
def PH(q:ResLP E G H (Cd g U) P):ResP E G H (g U) λd=>∃ds,d=.lst ds/\P (je 0 ds):=by
 unfold Cd at q;cases e:g U with
 |ok d=>
  rw[e]at q;dsimp only at q;cases d with
  |lst ds=>exact⟨ds,rfl,q⟩
  |_=>exact q.elim
 |er c=>rw[e]at q;exact q
 |st=>rw[e]at q;exact q
def DI(hg:Gl X "enumerate")(hm:X.mg "enumerate"=none)(h:GP X B E e g)(he:bE [e] X.env=(false,eval e X.env)::bE [] X.env):
  AR X B E (.Tuple tes k1 tp) (.Call (.Name "enumerate" p) [e] [] pos) (Cd g):=by
 intro pins s Z H R I ⟨G,U,Rr,q⟩;have ha:PA X [e] (Zl (XN (kx X) B E g) FF):=oq h zf he;refine Call_ (vw I hg hm (by decide+kernel:gO "enumerate"=some (.type "enumerate")) (iN (i7 (ha pos pins s Z H (λvs H1=>∃a,vs=[.ref a]/\(∃xs,SqL X.K H1 a xs)/\R (VC X.K a) H1) I ⟨G,U,Rr,(PH q).mono λd _ ⟨ds,ed,q⟩ v G1 H1 e1 ax=>?_⟩) λus s1 ⟨vs,H1,I1,r1,a,e1,hq,q1⟩=>?_) he rfl))
 ·have bh:Same B H1:=Rr.bh.trans e1.hh;subst ed;rcases ax with ⟨a,vs,rfl,s,dl⟩|⟨ds2,a,vs,z,rfl,s,dl⟩|⟨t,kvs,a,z,_⟩
  ·exact⟨a,rfl,⟨vs,SqL.mono e1.gh s⟩,q _ G1 H1 e1 (Wq (λG2 H2 ⟨x1,x2⟩ sg=>⟨SqL.mono (x1.trans sg) s,x1⟩) dl)⟩
  ·cases z;exact⟨a,rfl,⟨vs,SqL.mono bh s⟩,q _ G1 H1 e1 (Wq (λG2 H2 ⟨x1,x2⟩ sg=>⟨SqL.mono x2 s,x1⟩) dl)⟩
  ·cases z
 ·subst e1;obtain⟨u,rfl,ru⟩:=mh r1;cases ru;have fps:∀b∈[s1.heap.objs.size+1,s1.heap.objs.size],yk X pins H1 b:=λb hb=>by
   rcases List.mem_cons.mp hb with rfl|hb
   ·exact I1.fpOk (fZ _) (I1.hok.fresh (fZ _))
   ·have z:b=s1.heap.objs.size:=by simpa using hb
    subst z;exact I1.fpOk (aH _) (I1.hok.fresh (aH _))
  obtain⟨xs,hq⟩:=hq;obtain⟨its,rv,pl,_⟩:=I1.list hq;refine call_enumerate_list pl.isList λh' he' hi' hz' hk'=>?_;exact kX he' ⟨s1.heap.objs.size+1,[s1.heap.objs.size+1,s1.heap.objs.size],_,_,H1,rfl,I1.kept (t':=s1.toks) hk',Ug a _ _ (Nat.succ_ne_self _),⟨⟨_,he'⟩,hi'⟩,fps,q1⟩
end
noncomputable def U4:Operator->Option (D->D->Option D)
 |.Add=>some bx
 |.Sub=>some Ln
 |.Mult=>some lg
 |.Mod=>some Dm
 |.FloorDiv=>some Yn
 |_=>none
def MX(hf:U4 op=some f)(ha:lx X B E a g)(hb:lx X B E b h):gq X B E (.BinOp a op b pos) (g2 f g h):=by
 cases op<;>cases hf
 ·exact LB ha hb
 ·exact MM ha hb
 ·exact MQ ha hb
 ·exact MR ha hb
 ·exact ES ha hb
noncomputable def Of:List Bool->List ((En->Res)×(En->Res))->En->ResL
 |[],[]=>ai
 |m::ms,p::ps=>ae (if m then p.1 else p.2) (Of ms ps)
 |_,_=>JU
theorem Ih:∀{ms:List Bool}{es:List Expr},Of ms (es.map λe=>(og ev C e,ev C e))=JV ev C ms es
 |[],[]=>rfl
 |[],_::_=>rfl
 |_::_,[]=>rfl
 |m::ms,e::es=>by
  show ae (if m then og ev C e else ev C e) (Of ms (es.map λe=>(og ev C e,ev C e)))=ae (if m then og ev C e else ev C e) (JV ev C ms es);rw[Ih]
def WG:Res->Res
 |.ok d=>.ok d
 |_=>.st
noncomputable def y0(T:GT)(i:Nat)(ps:List ((En->Res)×(En->Res))):En->Res:=λU=>match aa i U with
 | .ok (.fn y) => (match T.fns y with
  |some s=>aj s.f (Of s.ms ps) U
  |none=>.st)
 |.ok (.obj e fs)=>aj (λds=>WG (T.lam e fs ds)) (Of (ps.map λ_=>false) ps) U
 |_=>.st
def Nh(T:GT)(ev:Ev)(C:SC)(i:Nat)(args:List Expr):En->Res:=y0 T i (args.map λe=>(og ev C e,ev C e))
section
variable{T:GT}{ev tv:Ev}{X:Cx}{C:SC}{B:Hp}{E:XK}{pos p:Pos}{x:Str}{e a:Expr}{es:List Expr}
def U9(h:jc T ev)(O:XOk X C T E)(hs:slot C x=some i)(hn:(e::es).all ja=true):gq X B (ek (kx X) E) (.Call (.Name x p) (e::es) [] pos) (Nh T ev C i (e::es)):=by
 intro pins s Z H Q I ⟨G,U,R,q⟩;unfold Nh y0 at q;cases ea:aa i U with
 |er c=>rw[ea]at q;exact q.elim
 |st=>rw[ea]at q;exact q.elim
 |ok d=>
  rw[ea]at q;cases d with
  |fn y=>
   dsimp only at q;cases ef:T.fns y with
   |none=>rw[ef]at q;exact q.elim
   |some sp=>
    rw[ef]at q;dsimp only at q;rw[Ih]at q;obtain⟨k,f,fd,ps,hr,hm,hk,hb,F⟩:=O.fns y sp ef;obtain⟨v,q1,q2⟩:=R.arg ea;have ev':v=.ref f:=by rw[q2.fn];show V.ref (ym X.mg y)=_;rw[mx hm]
    subst ev';have hn':=hn;rw[cS,aF]at hn';refine eS (i7 (O.var hs pins s Z H (λv H1=>v=.ref f/\H1=H) I ⟨_,q1,rfl,rfl⟩) λu s1 ⟨v,H1,I1,r1,e1,e2⟩=>?_);subst e1 e2;cases r1;refine PySem.W.callWith_K (h₀:=X.base) I.ok.mod.kin hk (i7 (Bj (B:=B) (E:=E) h O (ms:=sp.ms) hn pos pins s1 Z H1 (λvs H2=>Ou (kx X) sp.ms sp.f vs H2 Q E) I1 ⟨G,U,R,(U8 q).mono λds _ q vs G1 H2 e1 al=>
     ⟨al.length.2,R.gb.same (R.bh.trans e1.hh),G1,ds,e1.gh,al,(q.ext e1).mono λd _ q v G' H' e2 dn=>q v G' H' (e1.trans e2) dn⟩⟩) λus s2 ⟨vs,H2,I2,r,q2⟩=>⟨I2.kIn,?_⟩) (bc hn'.1) (ub hn'.2)
    exact Oe (dvs:=[]) F hr hb .nil O.goes I2 r (by rw[cA];exact q2)
  |obj l fs=>
   dsimp only at q;rw[dA,show(((λ_=>false) ∘ λe=>(og ev C e,ev C e)):Expr->Bool)=(λ_=>false)from rfl,Ih]at q;obtain⟨v,q1,q2⟩:=R.arg ea;obtain⟨a,lvs,rfl,la,df⟩:Den (kx X) G (.obj l fs) v:=by
    rcases q2 with z|⟨_,_,_,z,_⟩|⟨_,_,_,z,_⟩
    ·exact z
    ·cases z
    ·cases z
   have hn':=hn;rw[cS,aF]at hn';have fnat:∀{H':Hp}{h':Heap},Same G H'->HOk X.prog X.w H' h'->PySem.W.FnAt a h':=λ{H' h'} sg hok=>by
    unfold LamAt at la;split at la
    ·obtain⟨qual,pm,c',ctv,cl,oc,cvs,t,h1,_⟩:=la;obtain⟨z,_⟩:=hok a _ (sg _ _ h1);exact⟨_,_,_,_,z⟩
    ·exact la.elim
   refine eS (i7 (O.var hs pins s Z H (λv H1=>v=.ref a/\H1=H) I ⟨_,q1,rfl,rfl⟩) λu s1 ⟨v,H1,I1,r1,e1,e2⟩=>?_);subst e1 e2;cases r1;refine PySem.W.callWith_F (fnat R.gh I1.hok) (i7 (Bj (B:=B) (E:=E) h O (ms:=(e::es).map λ_=>false) hn pos pins s1 Z H1 (λvs H2=>∃G1 ds d,Ext G H1 G1 H2/\DenL (kx X) G1 ds vs/\T.lam l fs ds=.ok d/\∀v G' H',Ext G H1 G' H'->Den (kx X) G' d v->Q v H') I1 ⟨G,U,R,(U8 q).mono λds _ q vs G1 H2 e1 al=>?_⟩)
    λus s2 ⟨vs,H2,I2,r,G1,ds,d,e1,dl,el,q⟩=>⟨fnat (e1.gg.trans e1.gh) I2.hok,?_⟩) (bc hn'.1) (ub hn'.2)
   ·cases el:T.lam l fs ds with
    |ok d=>rw[el]at q;exact⟨G1,ds,d,e1,al.den my,el,q⟩
    |er c=>rw[el]at q;exact q.elim
    |st=>rw[el]at q;exact q.elim
   ·obtain⟨k,hr,run⟩:=O.lams l fs ds d el;refine mJ (eP (run X.A X.stack s2 H2 G1 a us vs Q (RoomL.of hr) I2.env0 (R.gb.same (R.bh.trans e1.hh)) e1.gh ⟨a,lvs,rfl,la.mono e1.gg,df.mono e1.gg⟩ dl r λv G' H' e2 dn=>q v G' H' (e1.trans e2) dn) λrr s' hq=>?_);cases rr with
    |error x=>
     obtain⟨_,_,_,_,_,_,_,_,_,z⟩:=(show Ew X.prog X.w X.stack H2 s2 E0 x s' from hq);exact z.elim
    |ok fl=>
     cases fl with
     |ret u=>exact I2.after hq
     |next=>exact eR hq
     |brk=>exact eR hq
     |cont=>exact eR hq
  |_=>exact q.elim
end
noncomputable def TH(x:Str):Option (D->Option D):=
 if x="len" then some fe else if x="list" then some fh else if x="tuple" then some cu else if x="int" then some Yo else if x="all" then some t6 else if x="any" then some vj else none
section
variable{X:Cx}{B:Hp}{E:EK}{e a b:Expr}{es:List Expr}{g h:En->Res}{pos p:Pos}{x:Str}
def IU(O:XOk X C T E')(hf:TH x=some f)(hg:Gl X x)(hn:ja e=true)(ha:lx X B E e g):gq X B E (.Call (.Name x p) [e] [] pos) (g1 f g):=by
 unfold TH at hf
 by_cases h1:x="len"
 ·rw[aG h1]at hf;cases hf;subst h1;exact MT hg (O.bl _ (by decide)) ha (bc hn) rfl
 rw[aJ h1]at hf
 by_cases h1:x="list"
 ·rw[aG h1]at hf;cases hf;subst h1;exact Qq (Lg O.calm hg (O.bl _ (by decide)) ha hn) Sx
 rw[aJ h1]at hf
 by_cases h1:x="tuple"
 ·rw[aG h1]at hf;cases hf;subst h1;exact Yj hg (O.bl _ (by decide)) ha (bc hn) rfl
 rw[aJ h1]at hf
 by_cases h1:x="int"
 ·rw[aG h1]at hf;cases hf;subst h1;exact EO hg (O.bl _ (by decide)) ha (bc hn) rfl
 rw[aJ h1]at hf
 by_cases h1:x="all"
 ·rw[aG h1]at hf;cases hf;subst h1;exact LA O.calm hg (O.bl _ (by decide)) ha (bc hn)
 rw[aJ h1]at hf
 by_cases h1:x="any"
 ·rw[aG h1]at hf;cases hf;subst h1;exact MY O.calm hg (O.bl _ (by decide)) ha (bc hn)
 rw[aJ h1]at hf;cases hf
noncomputable def Qf(x:Str):Option String:=
 if x="int" then some "int" else if x="bool" then some "bool" else if x="str" then some "str" else if x="list" then some "list" else if x="tuple" then some "tuple" else none
def BA(O:XOk X C T E')(hf:Qf y=some c)(hg:Gl X "isinstance")(hg2:Gl X y)(hn:ja e=true)(ha:lx X B E e g):gq X B E (.Call (.Name "isinstance" p) [e,.Name y p2] [] pos) (g1 (cy c) g):=by
 have he:bE [e,.Name y p2] X.env=(false,eval e X.env)::bE [.Name y p2] X.env:=bc hn;unfold Qf at hf
 by_cases h1:y="int"
 ·rw[aG h1]at hf;cases hf;subst h1;exact Dj CZ hg (O.bl _ (by decide)) hg2 (O.bl _ (by decide)) PyProof.Rows.boot_int ha (by decide) (by decide) he rfl rfl
 rw[aJ h1]at hf
 by_cases h1:y="bool"
 ·rw[aG h1]at hf;cases hf;subst h1;exact Dj Wz hg (O.bl _ (by decide)) hg2 (O.bl _ (by decide)) PyProof.Rows.boot_bool ha (by decide) (by decide) he rfl rfl
 rw[aJ h1]at hf
 by_cases h1:y="str"
 ·rw[aG h1]at hf;cases hf;subst h1;exact Dj CY hg (O.bl _ (by decide)) hg2 (O.bl _ (by decide)) PyProof.Rows.boot_str ha (by decide) (by decide) he rfl rfl
 rw[aJ h1]at hf
 by_cases h1:y="list"
 ·rw[aG h1]at hf;cases hf;subst h1;exact Dj W0 hg (O.bl _ (by decide)) hg2 (O.bl _ (by decide)) PyProof.Rows.boot_list ha (by decide) (by decide) he rfl rfl
 rw[aJ h1]at hf
 by_cases h1:y="tuple"
 ·rw[aG h1]at hf;cases hf;subst h1;exact Dj S3 hg (O.bl _ (by decide)) hg2 (O.bl _ (by decide)) kF ha (by decide) (by decide) he rfl rfl
 rw[aJ h1]at hf;cases hf
end
noncomputable def zi(C:SC)(n:Str)(a:Expr):Option Expr:=match a with
 |.Call (.Name y _) [e] [] _=>if decide (y=n) && decide (slot C y=none) && Iz C y && ja e then some e else none
 |_=>none
noncomputable def Ov(ev:Ev)(C:SC)(x:Str)(args:List Expr):En->Res:=match args with
 | [a] => (match zi C "set" a with
  |some e=>if x="sorted" then g1 cf (og ev C e)else jx
  | none => (match zi C "range" a with
   |some e=>if x="tuple" then g1 fc (og ev C e)else jx
   | none => (match TH x with
    |some f=>if ja a then g1 f (og ev C a)else jx
    |none=>jx)))
 | [a, .Name y _] => if x = "isinstance" then (match Qf y with
   |some c=>if ja a && Iz C y then g1 (cy c) (og ev C a)else jx
   |none=>jx)else jx
 |[a,b]=>if ja a && ja b then(if x="min" then g2 Dl (og ev C a) (og ev C b)else if x="max" then g2 Dk (og ev C a) (og ev C b)else jx)else jx
 |_=>jx
noncomputable def yf(T:GT)(ev:Ev)(C:SC)(x:Str)(args:List Expr):En->Res:=match slot C x with
 | some i => (match args with
  |[]=>jx
  |e::es=>if(e::es).all ja then Nh T ev C i (e::es)else jx)
 | none => if Iz C x then (match T.fns x with
  | some s => (match args with
   |[]=>if s.ms=[]then(λ_=>s.f [])else jx
   |e::es=>if(e::es).all ja then aj s.f (JV ev C s.ms (e::es))else jx)
  |none=>Ov ev C x args)else jx
section
variable{T:GT}{ev tv:Ev}{X:Cx}{C:SC}{B:Hp}{E:XK}{pos p:Pos}{x:Str}{e a:Expr}{es:List Expr}
def F7(O:XOk X C T E)(h:zi C n a=some e):∃p pos,a=.Call (.Name n p) [e] [] pos/\Gl X n/\ja e=true:=by
 unfold zi at h;split at h
 ·rename_i y p e' pos;split at h
  ·rename_i c;cases h;simp only[aF,decide_eq_true_eq]at c;obtain⟨⟨⟨rfl,_⟩,h3⟩,h4⟩:=c;exact⟨p,pos,rfl,(O.gl h3).1,h4⟩
  ·cases h
 ·cases h
def PP(h:jc T ev)(O:XOk X C T E)(hg:Gl X x):gq X B (ek (kx X) E) (.Call (.Name x p) args [] pos) (Ov ev C x args):=by
 unfold Ov;split
 ·rename_i a;cases hs:zi C "set" a with
  |some e=>
   dsimp only;obtain⟨p2,pos2,rfl,hg2,hn⟩:=F7 O hs
   by_cases h1:x="sorted"
   ·subst h1;rw[aG rfl];exact To (by have:=O.units;lia) O.calm hg (O.bl _ (by decide)) hg2 (O.bl _ (by decide)) (eu h O e) (bc hn)
   ·rw[aJ h1];exact de
  |none=>
   dsimp only;cases hr:zi C "range" a with
   |some e=>
    dsimp only;obtain⟨p2,pos2,rfl,hg2,hn⟩:=F7 O hr
    by_cases h1:x="tuple"
    ·subst h1;rw[aG rfl];exact EL O.calm hg (O.bl _ (by decide)) hg2 (O.bl _ (by decide)) (eu h O e) (bc hn)
    ·rw[aJ h1];exact de
   |none=>
    dsimp only;cases hf:TH x with
    |none=>exact de
    |some f=>
     dsimp only
     by_cases hn:ja a=true
     ·rw[aG hn];exact IU O hf hg hn (eu h O a)
     ·rw[aJ hn];exact de
 ·rename_i a y p2
  by_cases hx:x="isinstance"
  ·subst hx;rw[aG rfl];cases hf:Qf y with
   |none=>exact de
   |some c=>
    dsimp only
    by_cases hn:(ja a && Iz C y)=true
    ·rw[aG hn];rw[aF]at hn;exact BA O hf hg (O.gl hn.2).1 hn.1 (eu h O a)
    ·rw[aJ hn];exact de
  ·rw[aJ hx];exact de
 ·rename_i a b _
  by_cases hn:(ja a && ja b)=true
  ·rw[aG hn];rw[aF]at hn
   by_cases h1:x="min"
   ·subst h1;rw[aG rfl];exact EM O.calm hg (O.bl _ (by decide)) (eu h O a) (eu h O b) (bc hn.1) (bc hn.2)
   ·rw[aJ h1]
    by_cases h2:x="max"
    ·subst h2;rw[aG rfl];exact EN O.calm hg (O.bl _ (by decide)) (eu h O a) (eu h O b) (bc hn.1) (bc hn.2)
    ·rw[aJ h2];exact de
  ·rw[aJ hn];exact de
 ·exact de
def bb(h:jc T ev)(O:XOk X C T E):gq X B (ek (kx X) E) (.Call (.Name x p) args [] pos) (yf T ev C x args):=by
 unfold yf;cases hs:slot C x with
 |some i=>
  cases args with
  |nil=>exact de
  |cons e es=>
   dsimp only
   by_cases hn:(e::es).all ja=true
   ·rw[aG hn];exact U9 h O hs hn
   ·rw[aJ hn];exact de
 |none=>
  dsimp only
  by_cases hg:Iz C x=true
  ·rw[aG hg];obtain⟨g1,g2⟩:=O.gl hg;cases ef:T.fns x with
   |none=>exact PP h O g1
   |some s=>
    obtain⟨k,f,fd,ps,hr,hm,hk,hb,F⟩:=O.fns x s ef;cases args with
    |nil=>
     dsimp only
     by_cases hms:s.ms=[]
     ·rw[aG hms];rw[hms]at F;exact Ye F hr g1 hm hk hb O.goes g2
     ·rw[aJ hms];exact de
    |cons e es=>
     dsimp only
     by_cases hn:(e::es).all ja=true
     ·rw[aG hn];have hn':=hn;rw[cS,aF]at hn';exact ET F hr g1 hm hk hb O.goes (Bj h O hn) g2 (bc hn'.1) (ub hn'.2)
     ·rw[aJ hn];exact de
  ·rw[aJ hg];exact de
end
def JC:Expr->Option (lC×Expr×eI×Pos)
 |.Lambda a b c p=>some (a,b,c,p)
 |_=>none
def CS(h:JC e=some (a,b,c,p)):e=.Lambda a b c p:=by
 cases e<;>first|(cases h;rfl)|cases h
def JQ:Expr->Option Int
 |.Constant (.int i) _ _=>some i
 |_=>none
def BM(h:JQ e=some i):∃kd cp,e=.Constant (.int i) kd cp:=by
 unfold JQ at h;split at h
 ·cases h;exact⟨_,_,rfl⟩
 ·cases h
noncomputable def Bf(T:GT)(ev:Ev)(C:SC)(x:Str)(args:List Expr)(kw:iA):En->Res:=match args with
 | [e] => (match JC kw.value with
  |some (params,body,scope,lp)=>if decide (x="sorted") && Iz C x && decide (kw.arg=some "key") && ja e then s8 T (og ev C e) (Ke C params body scope lp)else jx
  |none=>jx)
 |_=>jx
def JG(h:jc T ev)(O:XOk X C T E):gq X B (ek (kx X) E) (.Call (.Name x p) args [kw] pos) (Bf T ev C x args kw):=by
 unfold Bf;split
 ·rename_i e;cases hl:JC kw.value with
  |none=>exact de
  |some q=>
   obtain⟨params,body,scope,lp⟩:=q;dsimp only
   by_cases hc:(decide (x="sorted") && Iz C x && decide (kw.arg=some "key") && ja e)=true
   ·rw[aG hc];simp only[aF,decide_eq_true_eq]at hc;obtain⟨⟨⟨rfl,h2⟩,h3⟩,h4⟩:=hc;obtain⟨ka,kv,kp⟩:=kw;dsimp only at hl h3;subst h3;rw[CS hl];exact Yi h O (O.gl h2).1 h4
   ·rw[aJ hc];exact de
 ·exact de
def um(C:SC)(x:Str):Bool:=decide (x="range") && decide (slot C x=none) && Iz C x
noncomputable def Im(ev:Ev)(C:SC)(iter:Expr):En->ResL:=match iter with
 |.Call (.Name x _) [a] [] _=>if um C x && ja a then fx (JV ev C [true] [a])else ba (og ev C iter)
 |_=>ba (og ev C iter)
def V9(ev:Ev)(C:SC)(e:Expr):En->Res:=match e with
 | .Name x _ => (match slot C x with
  |some i=>yz i
  |none=>ev C e)
 |_=>ev C e
noncomputable def Zf(ev:Ev)(C:SC)(iter:Expr):En->ResL:=match iter with
 |.Call (.Name x _) [a] [] _=>if um C x && ja a then fx (JV ev C [true] [a])else ba (V9 ev C iter)
 |_=>ba (V9 ev C iter)
section
variable{T:GT}{ev tv:Ev}{X:Cx}{C:SC}{B:Hp}{E:XK}{pos p:Pos}{x:Str}{e a tg:Expr}{es:List Expr}
def Pm(h:jc T ev)(O:XOk X C T E)(e:Expr):GP X B (ek (kx X) E) e (V9 ev C e):=by
 have d:GP X B (ek (kx X) E) e (ev C e):=PN (h X C B E e O);cases e with
 |Name x p=>
  show GP X B _ _ (match slot C x with
   |some i=>yz i
   |none=>ev C (.Name x p))
  cases es:slot C x with
  |none=>exact d
  |some i=>exact IR i (O.var es)
 |_=>exact d
def Lp(O:XOk X C T E)(h:um C x=true):x="range"/\Gl X "range"/\X.mg "range"=none:=by
 unfold um at h;simp only[aF,decide_eq_true_eq]at h;obtain⟨⟨h1,h2⟩,h3⟩:=h;subst h1;exact⟨rfl,(O.gl h3).1,O.bl _ (by decide)⟩
def WK(h:jc T ev)(O:XOk X C T E)(e:Expr):AR X B (ek (kx X) E) tg e (Zf ev C e):=by
 unfold Zf;split
 ·rename_i x _ a _
  by_cases hc:(um C x && ja a)=true
  ·rw[aG hc];rw[aF]at hc;obtain⟨rfl,g1,g2⟩:=Lp O hc.1;exact Qv g1 g2 (Bj h O (by rw[cS,hc.2];rfl)) (bc hc.2)
  ·rw[aJ hc];exact Xy (Pm h O _)
 ·exact Xy (Pm h O _)
noncomputable def G9(C:SC)(tg iter:Expr):Option Expr:=match tg,iter with
 |.Tuple _ _ _,.Call (.Name y _) [e] [] _=>if decide (y="enumerate") && decide (slot C y=none) && Iz C y && ja e then some e else none
 |_,_=>none
def Ow(ev:Ev)(C:SC)(tg iter:Expr):En->ResL:=match G9 C tg iter with
 |some e=>Cd (V9 ev C e)
 |none=>Zf ev C iter
def QX(h:jc T ev)(O:XOk X C T E)(e:Expr):AR X B (ek (kx X) E) tg e (Ow ev C tg e):=by
 unfold Ow;cases he:G9 C tg e with
 |none=>exact WK h O e
 |some a=>
  dsimp only;unfold G9 at he;split at he
  ·rename_i y p a' pos;split at he
   ·rename_i c;cases he;simp only[aF,decide_eq_true_eq]at c;obtain⟨⟨⟨rfl,_⟩,h3⟩,h4⟩:=c;exact DI (O.gl h3).1 (O.bl _ (by decide)) (Pm h O a) (bc h4)
   ·cases he
  ·cases he
def GE(h:jc T ev)(O:XOk X C T E)(e:Expr):Rn X B (ek (kx X) E) tg e (Im ev C e):=by
 unfold Im;split
 ·rename_i x _ a _
  by_cases hc:(um C x && ja a)=true
  ·rw[aG hc];rw[aF]at hc;obtain⟨rfl,g1,g2⟩:=Lp O hc.1;exact LL (Qv g1 g2 (Bj h O (by rw[cS,hc.2];rfl)) (bc hc.2))
  ·rw[aJ hc];exact Qx (eu h O _)
 ·exact Qx (eu h O _)
end
noncomputable def n5(ev tv:Ev)(C:SC)(elt:Expr)(gens:List Comprehension)(scope:eI):En->Res:=match gens with
 | [⟨.Name x _, iter, ifs, 0⟩] => if yt C scope [x] && rm iter then (match slots C (cx scope.names) with
  | some ix => (match ifs with
   |[]=>bw (Im ev C iter) ix (gC (.bl true)) (ev (ov C scope [x]) elt)
   |[c]=>bw (Im ev C iter) ix (tv (ov C scope [x]) c) (ev (ov C scope [x]) elt)
   |_=>jx)
  |none=>jx)else jx
 |_=>jx
inductive CompV(X:Cx)(B:Hp)(E:EK)(elt:Expr)(gens:List Comprehension)(scope:eI)(G:En->Res):Prop
 |st (h:G=jx)
 |ok {tg iter:Expr} {ifs:List Expr} {own xs M:List Str} {ix:List Nat} {td:D->Option (List D)} {t g:En->Res} {r:En->ResL} {F:En->D->TR} {E2:XK} (eg:gens=[⟨tg,iter,ifs,0⟩]) (eG:G=qj r F)
  (st:X.Ok->∃cl,CompOk X scope cl own xs M ix/\BlockOk X B E2 scope cl own xs M tg td elt ifs t g) (hA:Uv X E2) (hF:∀U,Ey td (mz ix U) t g (F U)) (hE:AS E (ek (kx X) E2) F) (hi:Rn X B E tg iter r) (hs:∀x,gQ iter X.env x=pure x)
section
variable{T:GT}{ev tv:Ev}{X:Cx}{C:SC}{B:Hp}{E:XK}{pos p:Pos}{elt:Expr}
def GH(h:jc T ev)(ht:Eb T tv)(O:XOk X C T E):CompV X B (ek (kx X) E) elt gens scope (n5 ev tv C elt gens scope):=by
 unfold n5;split
 ·rename_i x px iter ifs
  by_cases hc:(yt C scope [x] && rm iter)=true
  ·rw[aG hc];rw[aF]at hc;obtain⟨hc,hset⟩:=hc;cases hx:slots C (cx scope.names)with
   |none=>exact .st rfl
   |some ix=>
    dsimp only;cases ifs with
    |nil=>
     dsimp only;refine .ok (tg:=.Name x px) (td:=UW) (ifs:=[]) (own:=Df scope) (xs:=[x]) (M:=cx scope.names) (ix:=ix) (t:=gC (.bl true)) (g:=ev (ov C scope [x]) elt) (E2:=E0) rfl (Kc (f:=vk ix (gC (.bl true)) (ev (ov C scope [x]) elt))) (λok=>?_) rfl (λU=>Zv.tr) V3 (GE h O iter) (wa hset);obtain⟨cl,O2⟩:=z8 O ok hc hx;exact⟨cl,O2,Q6 O2,.inl ⟨rfl,rfl⟩,λCc s₀ H₀ ex pn ac=>h _ _ B E0 elt (By O hc Cc s₀ H₀ ex pn ac)⟩
    |cons c r=>
     cases r with
     |nil=>
      refine .ok (tg:=.Name x px) (td:=UW) (ifs:=[c]) (own:=Df scope) (xs:=[x]) (M:=cx scope.names) (ix:=ix) (t:=tv (ov C scope [x]) c) (g:=ev (ov C scope [x]) elt) (E2:=E0) rfl (Kc (f:=vk ix (tv (ov C scope [x]) c) (ev (ov C scope [x]) elt))) (λok=>?_) rfl (λU=>Zv.tr) V3 (GE h O iter) (wa hset);obtain⟨cl,O2⟩:=z8 O ok hc hx;exact⟨cl,O2,Q6 O2,.inr ⟨c,rfl,λCc s₀ H₀ ex pn=>ht _ _ B E0 c (By O hc Cc s₀ H₀ ex pn wq)⟩,λCc s₀ H₀ ex pn ac=>h _ _ B E0 elt (By O hc Cc s₀ H₀ ex pn ac)⟩
     |cons _ _=>exact .st rfl
  ·rw[aJ hc];exact .st rfl
 ·exact .st rfl
def Bw(h:jc T ev)(ht:Eb T tv)(O:XOk X C T E):Ut X B (ek (kx X) E) (.ListComp elt gens scope pos) (n5 ev tv C elt gens scope)/\IsL (n5 ev tv C elt gens scope):=by
 cases GH (B:=B) (elt:=elt) (gens:=gens) (scope:=scope) h ht O with
 |st e=>rw[e];exact⟨QG,λU d h=>by cases h⟩
 |ok eg eG st hA hF hE hi hs=>
  rw[eG];subst eg;refine⟨λpins s Z H Q I q=>?_,Sw⟩;obtain⟨cl,O2,Bk⟩:=st I.ok;exact Xn O2 O.calm hA Bk hF hE hi hs pins s Z H Q I q
end
end Pu
end
section
namespace Pu
open PySem PySem.Spec PyProof.Rows L2 HT
section
variable{prog:bQ}{w:bZ}{A:cG}{E:aC->aI->Prop}{s:aI}
def Em{t sl:Addr}{items:Array aC}{vl vu:aC}{lo hi:Option Int}{Q:aC->aI->Prop}(ht:IsTup s.heap t items)(hs:s.heap.IsSliceOf sl vl vu .none)(pl:oF vl lo)(pu:oF vu hi)
  (hw:HT.jg items.size 0 lo=0/\HT.jg items.size items.size hi=items.size)(h:Q (.ref t) s):bA (bH prog w) A (oG (.ref t) (.ref sl)) Q E s:=by
 obtain⟨os,hos,hcs,hds⟩:=id hs;have hTs:s.TypeIs (.ref sl) "slice":=⟨os,hos,hcs⟩;unfold oG
 try with_reducible refine cM ?_
 first|refine aA (aB ?_)|skip
 refine aA (wpAny_sequenceKey ht.typeIs (by decide) ?_);refine aA (eV (name:=fX "__getitem__") ht.typeIs fJ (cU fJ ht.typeIs entry_tuple_getitem ?_ (args_tuple_getitem _ _)));show bA _ _ (iT (.ref t)>>=_) _ _ s;refine aA (tupleItemsOf_ ht ?_);refine aA (jB hTs ?_);rw[aG (by decide)];refine aA (HT.pz hs pl pu ?_);show bA _ _ (if(((HT.jg items.size 0 lo:Nat):Int)==0 && (1:Int)==1 && (HT.jg items.size items.size hi - HT.jg items.size 0 lo)==items.size)=true then _ else _) _ _ s;rw[aG (by rw[hw.1,hw.2];simp)];unfold Builtin.Tuple.tupleIsExact;refine aA (aA (jB ht.typeIs (aB ?_)));rw[aG (by decide)];exact aA (jS (aB ⟨_,rfl,aB h⟩))
end
section
variable{X:Cx}
def XW(K:aU):V->Option Int->Option Int->Hp->VK->Prop:=λx lo hi H Q=>∃a xs,x=.ref a/\SqT K H a xs/\(HT.jg xs.length 0 lo=0/\HT.jg xs.length xs.length hi=xs.length)/\Q (.ref a) H
def Y5:SlR X (XW X.K):=by
 intro pins s Z H x v vl vu lo hi sl Q I rx hs pl pu h;obtain⟨a,xs,rfl,hx,hw,q⟩:=h;cases rx;obtain⟨its,r,ht,hz⟩:=I.tuple hx;have hlen:its.toArray.size=xs.length:=by rw[bC];exact r.length.symm
 exact⟨"tuple",_,PyProof.Rows.slot_tuple_getitem.lookup,ht.typeIs,Em ht hs pl pu (by rw[hlen];exact hw) ⟨.ref a,H,I,rfl,q⟩⟩
end
end Pu
end
section
namespace Pu
open PySem PySem.Spec PyProof.Rows L2
def Jr(xs:List D)(lo hi:Option Int):List D:=(xs.drop (HT.jg xs.length 0 lo)).take (HT.jg xs.length xs.length hi - HT.jg xs.length 0 lo)
def uu(d:D)(lo hi:Option Int):Option D:=match d with
 |.lst xs=>some (.lst (Jr xs lo hi))
 |.tup xs=>some (.tup (Jr xs lo hi))
 |_=>none
def Kg(ev:Ev)(C:SC)(o:Option Expr)(U:En):Option (Option Int):=match o with
 |none=>some none
 | some e => (match ev C e U with
  |.ok (.int i)=>some (some i)
  |_=>none)
def WL(o:Option (En->Res))(U:En):Option (Option Int):=match o with
 |none=>some none
 | some g => (match g U with
  |.ok (.int i)=>some (some i)
  |_=>none)
def Wg(g:En->Res)(lo hi:Option (En->Res)):En->Res:=λU=>(g U).bind λd=>match WL lo U,WL hi U with
 |some l,some h=>Res.of (uu d l h)
 |_,_=>.st
def Nj(ev:Ev)(C:SC)(a:Expr)(lo hi:Option Expr):En->Res:=Wg (og ev C a) (lo.map (ev C)) (hi.map (ev C))
def We{o:Option Expr}:WL (o.map (ev C)) U=Kg ev C o U:=by cases o<;>rfl
def DenL.cut{K:KA}{G:Hp}{ds:List D}{vs:List V}(dl:DenL K G ds vs)(lo hi:Option Int):DenL K G (Jr ds lo hi) (As vs lo hi):=by
 unfold Jr As;rw[dl.length];exact(dl.drop _).take _
section
variable{T:GT}{ev tv:Ev}{X:Cx}{C:SC}{B:Hp}{E:XK}{pos p:Pos}{a:Expr}
def Qr(h:jc T ev)(O:XOk X C T E):∃t:TO,PO X o t/\∀G U Z H l (Q:Option Int->Hp->Prop),EnvR (kx X) B G H Z U->Kg ev C o U=some l->(∀G' H',Ext G H G' H'->Q l H')->t Z H Q:=by
 cases o with
 |none=>
  refine⟨_,DF,λG U Z H l Q R e q=>?_⟩;cases e;exact q G H (Ext.refl R.gh)
 |some e=>
  refine⟨_,DE (h X C B E0 e O.none),λG U Z H l Q R ee q=>?_⟩;unfold Kg at ee;dsimp only at ee;cases eg:ev C e U with
  |ok d=>
   rw[eg]at ee;cases d with
   |int i=>
    cases ee;refine⟨G,U,R,?_⟩;rw[eg];exact λv G' H' x dn=>⟨i,dn,q G' H' x⟩
   |_=>cases ee
  |er c=>rw[eg]at ee;cases ee
  |st=>rw[eg]at ee;cases ee
def Y6(h:jc T ev)(O:XOk X C T E){lo hi:Option Expr}{p2:Pos}:gq X B (ek (kx X) E) (.Subscript a (.Slice lo hi none p2) pos) (Nj ev C a lo hi):=by
 obtain⟨tl,hl,ql⟩:=Qr (B:=B) h O (o:=lo);obtain⟨th,hh,qh⟩:=Qr (B:=B) h O (o:=hi);refine PE.imp (Xw (SlR.or FR (SlR.or NU Y5)) (eu (B:=B) (E:=E) h O a) hl hh) λZ H Q ⟨G,U,R,q⟩=>⟨G,U,R,(ResP.bind q).mono λd _ q v G1 H1 e1 av=>?_⟩;rw[We,We]at q;cases el:Kg ev C lo U with
 |none=>rw[el]at q;exact q.elim
 |some l=>
  cases eh:Kg ev C hi U with
  |none=>rw[el,eh]at q;exact q.elim
  |some hh=>
   rw[el,eh]at q;obtain⟨d',ed,q⟩:=ResP.of q;refine ql G1 U Z H1 l _ (R.ext e1) el λG2 H2 e2=>qh G2 U Z H2 hh _ (R.ext (e1.trans e2)) eh λG3 H3 e3=>?_;have e13:=(e1.trans e2).trans e3;have av':=(av.ext e2).ext e3;unfold uu at ed;split at ed
   ·rename_i xs;cases ed;obtain⟨l',vs,rfl,sq,dl⟩:=av'.lst e3.gh;exact .inl ⟨l',vs,rfl,sq,λp hp=>q _ (upd G3 p (.lst (As vs l hh))) _ (e13.trans (Ext.new e3.gh _ hp)) (sr e3.gh hp (dl.cut l hh))⟩
   ·rename_i xs;cases ed;rcases av' with ⟨l',vs,rfl,s2,dl⟩|⟨_,_,_,z,_⟩|⟨_,_,_,z,_⟩
    case inr.inl=>cases z
    case inr.inr=>cases z
    have sq:SqT (kx X) H3 l' vs:=.inl (.inl (e3.gh _ _ s2))
    by_cases hw:HT.jg vs.length 0 l=0/\HT.jg vs.length vs.length hh=vs.length
    ·have ec:As vs l hh=vs:=by unfold As;rw[hw.1,hw.2,List.drop_zero,Nat.sub_zero,List.take_length]
     have dc:=dl.cut l hh;rw[ec]at dc;exact .inr (.inr ⟨l',vs,rfl,sq,hw,q _ G3 H3 e13 ⟨l',vs,rfl,s2,dc⟩⟩)
    ·refine .inr ((.inl ⟨l',vs,rfl,sq,hw,λp hp=>q _ (upd G3 p (.tup (As vs l hh))) _ (e13.trans (Ext.new e3.gh _ hp)) (nc e3.gh hp (dl.cut l hh))⟩))
   ·cases ed
end
def Qb:Operator->Bool
 |.Mult=>true
 |_=>false
def Il(ev:Ev)(C:SC)(a:Expr)(op:Operator)(b:Expr):En->Res:=match a with
 | .List es _ => if Qb op && es.all ja then Kh (ft (rj ev C es)) (og ev C b) else (match U4 op with
  |some f=>g2 f (og ev C a) (og ev C b)
  |none=>jx)
 | a => (match U4 op with
  |some f=>g2 f (og ev C a) (og ev C b)
  |none=>jx)
def IS(h:jc T ev)(O:XOk X C T E):gq X B (ek (kx X) E) (.BinOp a op b pos) (Il ev C a op b):=by
 have gen:gq X B (ek (kx X) E) (.BinOp a op b pos) (match U4 op with
  |some f=>g2 f (og ev C a) (og ev C b)
  |none=>jx):=by
  cases hf:U4 op with
  |none=>exact de
  |some f=>exact MX hf (eu h O a) (eu h O b)
 unfold Il;split
 ·rename_i es _
  by_cases hc:(Qb op && es.all ja)=true
  ·rw[aG hc];rw[aF]at hc;have:op=.Mult:=by cases op<;>first|rfl|(cases hc.1)
   subst this;exact Qq (Xo (H8 my (qi h O hc.2)) Hj (eu h O b)) BJ
  ·rw[aJ hc];exact gen
 ·exact gen
noncomputable def HP(T:GT)(ev tv:Ev)(C:SC)(e:Expr):En->Res:=match e with
 | .Constant c _ _ => (match c with
  |.none=>gC .non
  |.bool b=>gC (.bl b)
  |.int i=>gC (.int i)
  |.str x=>gC (.str x)
  |_=>jx)
 |.Name x _=>D1 T C x
 |.BinOp a op b _=>Il ev C a op b
 | .UnaryOp op a _ => (match op with
  |.Not=>jt (ev C a)
  |_=>jx)
 | .BoolOp op vs _ => (match op with
  |.And=>Kb (ev C) vs
  |.Or=>Wd (ev C) vs)
 |.IfExp c a b _=>Mo (tv C c) (ev C a) (ev C b)
 |.Compare l ops rs _=>yg ev C l ops rs
 |.Tuple es _ _=>if es.all ja then ia (rj ev C es)else jx
 |.List es _=>if es.all ja then ft (rj ev C es)else jx
 | .Subscript a i _ => (match i with
  |.Slice lo hi none _=>Nj ev C a lo hi
  |i=>if H9 i then g2 br (og ev C a) (og ev C i)else jx)
 |.ListComp elt gens scope _=>n5 ev tv C elt gens scope
 | .Dict ks vs _ => (match ks, vs with
  |[],[]=>gC (.dct false [])
  |_,_=>jx)
 |.Lambda params body scope pos=>Ke C params body scope pos
 | .Call f args kws cp => (match f, kws with
  |.Name x _,[]=>yf T ev C x args
  |.Name x _,[kw]=>Bf T ev C x args kw
  |_,_=>jx)
 |_=>jx
def mj(g:En->Res):En->Res:=g1 (λd=>bD (Ir d)) g
noncomputable def HM(T:GT)(ev tv:Ev)(C:SC)(e:Expr):En->Res:=match e with
 | .UnaryOp op a _ => (match op with
  |.Not=>jt (tv C a)
  |_=>g1 (λd=>bD (Ir d)) (og ev C e))
 | .BoolOp op vs _ => (match op with
  |.And=>Kb (tv C) vs
  |.Or=>Wd (tv C) vs)
 |.Compare l ops rs _=>yg ev C l ops rs
 |e=>if Ia e then g1 (λd=>bD (Ir d)) (og ev C e)else jx
section
variable{T:GT}{ev tv:Ev}
def Ze(h:jc T ev)(ht:Eb T tv):jc T (HP T ev tv):=by
 intro X C B E e O;cases e with
 |Constant c k p=>
  cases c with
  |none=>exact MP
  |bool b=>exact RY
  |int i=>exact MU
  |str x=>exact MN
  |_=>exact de
 |Name x p=>exact CG O
 |BinOp a op b p=>
  exact IS h O
 |UnaryOp op a p=>
  cases op with
  |Not=>exact MO (h X C B E a O)
  |_=>exact de
 |BoolOp op vs p=>
  cases op with
  |And=>exact Pg λe=>h X C B E e O
  |Or=>exact Xj λe=>h X C B E e O
 |IfExp c a b p=>exact RW (ht X C B E c O) (h X C B E a O) (h X C B E b O)
 |Compare l ops rs p=>exact(Vl h O).1
 |Tuple es k p=>
  show gq X B _ _ (if es.all ja then ia (rj ev C es)else jx)
  by_cases hn:es.all ja=true
  ·rw[aG hn];exact ML my (qi h O hn)
  ·rw[aJ hn];exact de
 |List es p=>
  show gq X B _ _ (if es.all ja then ft (rj ev C es)else jx)
  by_cases hn:es.all ja=true
  ·rw[aG hn];exact MS my (qi h O hn)
  ·rw[aJ hn];exact de
 |Subscript a i p=>
  show gq X B _ _ (match i with
   |.Slice lo hi none _=>Nj ev C a lo hi
   |i=>if H9 i then g2 br (og ev C a) (og ev C i)else jx)
  split
  ·exact Y6 h O
  ·skip
   by_cases hp:H9 i=true
   ·rw[aG hp];exact RV (by have:=O.units;lia) (eu h O a) (eu h O i) (Ti hp)
   ·rw[aJ hp];exact de
 |Dict ks vs p=>
  cases ks with
  |nil=>
   cases vs with
   |nil=>exact RX
   |cons _ _=>exact de
  |cons _ _=>exact de
 |Lambda params body scope p=>exact Yg O
 |ListComp elt gens scope p=>exact Qq (Bw h ht O).1 (Bw (X:=X) (B:=B) (E:=E) (pos:=p) h ht O).2
 |Call f args kws p=>
  show gq X B _ _ (match f,kws with
   |.Name x _,[]=>yf T ev C x args
   |.Name x _,[kw]=>Bf T ev C x args kw
   |_,_=>jx)
  split
  ·exact bb h O
  ·exact JG h O
  ·exact de
 |_=>exact de
def Zi(h:jc T ev)(ht:Eb T tv):Eb T (HM T ev tv):=by
 intro X C B E e O;have pl:∀{e:Expr},Ea X B (ek (kx X) E) e (if Ia e then g1 (λd=>bD (Ir d)) (og ev C e)else jx):=λ{e}=>by
  by_cases hp:Ia e=true
  ·rw[aG hp];exact Yc (eu h O e) (F4 hp)
  ·rw[aJ hp];exact Al
 cases e with
 |UnaryOp op a p=>
  cases op with
  |Not=>exact EU (ht X C B E a O)
  |_=>exact Yc (eu h O _) (F4 rfl)
 |BoolOp op vs p=>
  cases op with
  |And=>exact QA (Ph λe=>ht X C B E e O)
  |Or=>exact QA (Xk λe=>ht X C B E e O)
 |Compare l ops rs p=>exact(Vl h O).2
 |_=>exact pl
end
def gP(T:GT):Nat->Bool->Ev
 |0,_=>λ_ _=>jx
 |n+1,false=>HP T (gP T n false) (gP T n true)
 |n+1,true=>HM T (gP T n false) (gP T n true)
theorem Ce(T:GT):∀n,jc T (gP T n false)/\Eb T (gP T n true)
 |0=>⟨λ_ _ _ _ _ _=>de,λ_ _ _ _ _ _=>Al⟩
 |n+1=>⟨Ze (Ce T n).1 (Ce T n).2,Zi (Ce T n).1 (Ce T n).2⟩
noncomputable def frz(i:Nat)(U:En):En:=match U[i]? with
 |some (.ow ds)=>U.set i (.pu (.lst ds))
 |some (.od t kvs)=>U.set i (.pu (.dct t kvs))
 |_=>U
def frzs(is:List Nat)(U:En):En:=is.foldl (λU i=>frz i U) U
section
variable{K:KA}{B G0 G H:Hp}{Z:St}{U:En}
def SlOk.gmono(e:Same G G')(h:SlOk K B G H s o):SlOk K B G' H s o:=by
 cases s with
 |no=>trivial
 |pu d=>obtain⟨v,h1,h2⟩:=h;exact⟨v,h1,h2.mono e⟩
 |bo d=>obtain⟨v,h1,h2⟩:=h;exact⟨v,h1,PR e h2⟩
 |ow ds=>obtain⟨a,vs,h1,h2,h3⟩:=h;exact⟨a,vs,h1,h2,h3.mono e⟩
 |od t kvs=>
  cases t with
  |false=>obtain⟨a,vs,h1,h2,h3⟩:=h;exact⟨a,vs,h1,h2,h3.mono e⟩
  |true=>obtain⟨a,vs,h1,h2,h3⟩:=h;exact⟨a,vs,h1,h2,h3.mono e⟩
def Ext.frzO(e:Ext G0 B G H)(bn:B a=none)(gn:G a=none)(h:H a=some o):Ext G0 B (upd G a o) H:=by
 refine⟨e.gg.trans (fq gn _),e.hh,λb u q=>?_,λb u q g z=>?_⟩
 ·by_cases z:b=a
  ·subst z;rw[ar]at q;rw[h];exact q
  ·rw[ak z]at q;exact e.gh b u q
 ·rw[ak (aq q bn)];exact e.fr b u q g z
def EnvR.frzAt(R:EnvR K B G H Z U){s:Sl}(hi:U[i]?=some s)(ho:s.own=true)(hs:Z[i]?=some (some (V.ref a)))(ha:H a=some o)(hd:Den K (upd G a o) d (.ref a)):
  EnvR K B (upd G a o) H Z (U.set i (.pu d)):=by
 obtain⟨gn,bn⟩:=R.own i s a hi ho hs;have hl:i<U.length:=(List.getElem?_eq_some_iff.mp hi).1;have sm:Same G (upd G a o):=fq gn _;refine⟨R.bh,λb u q=>?_,by rw[cV];exact R.len,λj t q=>?_,λj t b q1 q2 q3=>?_,λj k t u b q1 q2 q3 q4 q5 q6=>?_,R.gb⟩
 ·by_cases z:b=a
  ·subst z;rw[ar]at q;rw[ha];exact q
  ·rw[ak z]at q;exact R.gh b u q
 ·by_cases z:i=j
  ·subst z;rw[bK hl]at q;cases q;exact⟨_,hs,_,rfl,hd⟩
  ·rw[bN z]at q;obtain⟨o',z1,z2⟩:=R.sl j t q;exact⟨o',z1,z2.gmono sm⟩
 ·by_cases z:i=j
  ·subst z;rw[bK hl]at q1;cases q1;cases q2
  ·rw[bN z]at q1;obtain⟨g,b'⟩:=R.own j t b q1 q2 q3;refine⟨?_,b'⟩;have nb:b≠a:=by
    rintro rfl
    exact z (R.dis i j _ _ b hi q1 ho q2 hs q3)
   rw[ak nb];exact g
 ·have hj:i≠j:=by
   rintro rfl
   rw[bK hl]at q1;cases q1;cases q3
  have hk:i≠k:=by
   rintro rfl
   rw[bK hl]at q2;cases q2;cases q4
  rw[bN hj]at q1;rw[bN hk]at q2;exact R.dis j k t u b q1 q2 q3 q4 q5 q6
theorem EnvR.frz(R:EnvR K B G H Z U)(e:Ext G0 B G H)(i:Nat):∃G',Same G G'/\EnvR K B G' H Z (frz i U)/\Ext G0 B G' H:=by
 unfold Pu.frz;cases ed:U[i]? with
 |none=>exact⟨G,Same.refl G,R,e⟩
 |some s=>
  cases s with
  |ow ds=>
   obtain⟨a,vs,q1,q2,q3,gn,bn⟩:=R.owAt ed;exact⟨_,fq gn _,R.frzAt ed rfl q1 q2 ⟨a,vs,rfl,SqL.of ar,q3.mono (fq gn _)⟩,e.frzO bn gn q2⟩
  |od t kvs=>
   obtain⟨o,q1,q2⟩:=R.sl i _ ed;cases t with
   |false=>
    obtain⟨a,es,rfl,q3,q4⟩:=q2;obtain⟨gn,bn⟩:=R.own i _ a ed rfl q1;exact⟨_,fq gn _,R.frzAt ed rfl q1 q3 ⟨a,rfl,.inl ⟨rfl,es,ar,q4.mono (fq gn _)⟩⟩,e.frzO bn gn q3⟩
   |true=>
    obtain⟨a,es,rfl,q3,q4⟩:=q2;obtain⟨gn,bn⟩:=R.own i _ a ed rfl q1;exact⟨_,fq gn _,R.frzAt ed rfl q1 q3 ⟨a,rfl,.inr ⟨rfl,es,ar,q4.mono (fq gn _)⟩⟩,e.frzO bn gn q3⟩
  |no=>exact⟨G,Same.refl G,R,e⟩
  |pu _=>exact⟨G,Same.refl G,R,e⟩
  |bo _=>exact⟨G,Same.refl G,R,e⟩
theorem EnvR.frzs:∀(is:List Nat){G:Hp}{U:En},EnvR K B G H Z U->Ext G0 B G H->∃G',Same G G'/\EnvR K B G' H Z (frzs is U)/\Ext G0 B G' H
 |[],G,U,R,e=>⟨G,Same.refl G,R,e⟩
 |i::is,G,U,R,e=>by
  obtain⟨G1,s1,R1,e1⟩:=R.frz e i;obtain⟨G2,s2,R2,e2⟩:=EnvR.frzs is R1 e1;exact⟨G2,s1.trans s2,R2,e2⟩
end
section
variable{X:Cx}{G0 B:Hp}{E:EK}{st:Stmt}{F:En->Out}
def RD(is:List Nat)(h:u3 X G0 B E st F):u3 X G0 B E st (λU=>F (frzs is U)):=PS.imp h λD Z H ⟨G,U,R,e,q⟩=>by
 obtain⟨G',s,R',e'⟩:=EnvR.frzs is R e;exact⟨G',_,R',e',OutP.same s q⟩
end
section
variable{X:Cx}{G0 B:Hp}{E:EK}{scope:eI}{cl:List (Str×Addr)}{own xs:List Str}{y:Str}{M:List Str}{ix:List Nat}{elt iter tg:Expr}{ifs:List Expr}{pos pos' lpos:Pos}{r:En->ResL}{t g:En->Res}{i:Nat}{td:D->Option (List D)}{F:En->D->TR}{E':XK}
def NY(O:CompOk X scope cl own xs M ix)(hc:X.calm=true)(hA:Uv X E')(Bk:BlockOk X B E' scope cl own xs M tg td elt ifs t g)(hF:∀U,Ey td (mz ix U) t g (F U))(hE:AS E (ek (kx X) E') F)(hi:Rn X B E tg iter r)(hN:X.N.Nodup)(hy:X.N[i]?=some y)(hl:L2.Us X.env.scope y)(hf:X.fn y=true)
  (hs:∀x,gQ iter X.env x=pure x)(hsw:jX (.ListComp elt [⟨tg,iter,ifs,0⟩] scope lpos) (some (.Name y pos')) pos.line X.env=pure true):
  u3 X G0 B E (.Assign [.Name y pos'] (.ListComp elt [⟨tg,iter,ifs,0⟩] scope lpos) pos) (fw i (qj r F)):=by
 intro pins s Z H D I ⟨G,U,R,ex,q⟩;have q:=yh ex q;rw[exec_Assign_Name_used _ _ _ _ hsw,arm_evalThenUse_ListComp];refine aA (wpAny_standAt ?_);refine aA (aA ?_);refine wpAny_comprehension_free (use:=some (assign (.Name y pos') X.env)) (Q:=λ_ s'=>bA (bH X.prog X.w) X.A (pure PUnit.unit:Sem PUnit) (λ_ s'=>bA (bH X.prog X.w) X.A (pure Flow.next:Sem Flow) (SP X pins D) X.xe s') X.xe s') rfl hs (kg O.clos) O.kind O.names ?_;refine bU (hi pins s Z H (λJ H1=>∃G1 ds,Ext G H G1 H1/\Aq (kx X) J ds (λG2 H2=>Ext G1 H1 G2 H2)/\ds.length<=aQ/\ResLP E G H (m4 (F U) ds) λys=>OutP (kx X) G0 B E G (.nx (U.set i (.ow ys))) D) I
  ⟨G,U,R,(GI q).mono λds _ ⟨hl,q⟩ J G1 H1 e1 ok=>⟨G1,ds,e1,ok,hl,q⟩⟩) (λv s1 h1=>bU h1 (λitv s2 h2=>?_) λ_ _ e=>e) λ_ _ e=>e
 obtain⟨it,fp,tn,J,H1,rfl,I1,T,st,hfp,G1,ds,e1,ok,hl',q⟩:=h2;refine Jq (RR:=λacc C=>compPost (bH X.prog X.w) X.A X.xe (some (assign (.Name y pos') X.env)) (λ_ s'=>bA (bH X.prog X.w) X.A (pure PUnit.unit:Sem PUnit) (λ_ s'=>bA (bH X.prog X.w) X.A (pure Flow.next:Sem Flow) (SP X pins D) X.xe s') X.xe s') acc C) O hc hA Bk I1 T st hfp (R.ext e1) ok hl' (hF U) (λ_ _ z=>z) (((q.ext e1).er (hE U ds)).mono λys _ q=>?_);intro s3 H3 G3 vs m I3 hm hC e3 g3 h3 dl;have hsz:s2.heap.objs.size<=s2.heap.objs.size+1:=fZ _;have ltL:X.env.locals<s2.heap.objs.size:=I1.lt;have ltc:∀y c,X.env.cells.lookup y=some c->c<s2.heap.objs.size:=λy c e=>by
  obtain⟨v',q'⟩:=I1.cell y c e;exact q'.lt
 refine wpAny_assign_Name (Gc (v:=.ref s2.heap.objs.size) I3 hN hy hl rfl (λs4 I4 ⟨a,hsb,ha⟩=>?_) (.inl hf));have la:a<s2.heap.objs.size:=by
  rcases ha with z|z
  ·rw[z];exact ltL
  ·exact ltc _ _ z
 have na:s2.heap.objs.size+1≠a:=(uq la).symm;refine⟨m,hm.sameBut hsb na,λh' hs'=>aB (aB ⟨Z.set i (some (V.ref s2.heap.objs.size)),H3,?_,?_⟩)⟩
 ·refine I4.turned (t':=s4.toks) (it:=s2.heap.objs.size+1) (λb o hb e=>hs'.extBut b o hb e) hC ?_ (.inr (cB I1.sz hsz)) ?_ ?_
  ·exact(uq ltL).symm
  ·intro z c hc';exact uq (ltc z c hc')
  ·intro p hp z;exact absurd (bI (aT (I1.pin p hp).1) (cB hsz (eQ z.symm))) (cI _)
 ·exact q _ G3 H3 (e1.trans e3).gg (R.setO (e1.trans e3) (gm e1.hh (I1.hok.fresh (aH _))) g3 h3 dl) (ex.trans (e1.trans e3))
end
def jb(c:En->Res)(F:En->Out):Nat->En->Out
 |0,_=>.st
 |n+1,U=>(c U).then λd=>match d with
  | .bl true => (match F U with
   |.nx δ'=>jb c F n δ'
   |.ct δ'=>jb c F n δ'
   |.bk δ'=>.nx δ'
   |o=>o)
  |.bl false=>.nx U
  |_=>.st
def Ge:Nat:=1000000
def Yw(c:En->Res)(F:En->Out):En->Out:=jb c F Ge
section
variable{X:Cx}{G0 B:Hp}{E:EK}{c:Expr}{ss:List Stmt}{g:En->Res}{F:En->Out}{pos:Pos}
def FW(hp:pA (bH X.prog X.w) X.A X.env X.xe)(hc:Ea X B E c g)(hb:Ar X G0 B E ss F):u3 X G0 B E (.While c ss [] pos) (Yw g F):=
 PS.imp (X9 hp hc hb) λD Z H ⟨G,U,R,e,q⟩=>by
  refine⟨λm Z H=>∃G U,EnvR (kx X) B G H Z U/\Ext G0 B G H/\OutP (kx X) G0 B E G (jb g F m U) D,⟨Ge,G,U,R,e,q⟩,λm Z H ⟨G,U,R,e,q⟩=>⟨G,U,R,?_⟩⟩;cases m with
  |zero=>exact q.elim
  |succ m=>
   refine(yh e q).mono λd _ q=>?_;cases d with
   |bl b=>
    refine⟨b,rfl,λG1 H1 e1=>?_⟩;cases b with
    |false=>
     rw[aJ Bool.false_ne_true];exact q Z G1 H1 e1.gg (R.ext e1) (e.trans e1)
    |true=>
     rw[aG rfl];refine⟨λσ' H'=>∃m',m'<m+1/\∃G U,EnvR (kx X) B G H' σ' U/\Ext G0 B G H'/\OutP (kx X) G0 B E G (jb g F m' U) D,λσ' H' z=>z,G1,U,R.ext e1,e.trans e1,?_⟩;dsimp only at q;cases ef:F U with
     |nx δ'=>
      rw[ef]at q;exact λσ' G' H' s R' e'=>⟨m,hU m,G',δ',R',e',OutP.same (e1.gg.trans s) q⟩
     |ct δ'=>
      rw[ef]at q;exact λσ' G' H' s R' e'=>⟨m,hU m,G',δ',R',e',OutP.same (e1.gg.trans s) q⟩
     |bk δ'=>
      rw[ef]at q;exact λσ' G' H' s R' e'=>q σ' G' H' (e1.gg.trans s) R' e'
     |rt d=>rw[ef]at q;exact q
     |er c=>rw[ef]at q;exact q
     |st=>rw[ef]at q;exact q
   |_=>exact q.elim
end
structure SOk(X:Cx)(C:SC)(T:GT)(E:XK):Prop extends XOk X C T E where
 fn:∀x,x∉oo->X.fn x=true
 pass:pA (bH X.prog X.w) X.A X.env X.xe
 stk:X.stack=X.env::X.outer
 frm:X.env.frame=some X.env.locals
 ex0:X.ex=[]
def vg(C:SC)(x:Str):Option Nat:=if Km C.sc x && pb x && decide (x∉oo)then Wt x C.N 0 else none
def C6{C:SC}(h:vg C x=some i):C.N[i]?=some x/\Km C.sc x=true/\x∉oo:=by
 unfold vg at h
 by_cases e:(Km C.sc x && pb x && decide (x∉oo))=true
 ·rw[aG e]at h;rw[aF,aF]at e;obtain⟨_,q⟩:=Hm h;exact⟨by simpa using q,e.1.1,of_decide_eq_true e.2⟩
 ·rw[aJ e]at h;cases h
section
variable{X:Cx}{C:SC}{T:GT}{x:Str}{i:Nat}{pos:Pos}
def SOk.tg(O:SOk X C T E)(h:vg C x=some i):PG X (.Name x pos) (vb i):=by
 obtain⟨h1,h2,h3⟩:=C6 h;exact Qu (by rw[O.n];exact O.nd) (by rw[O.n];exact h1) (by rw[O.s];exact Cn h2) (.inl (O.fn x h3))
def SOk.st(O:SOk X C T E)(h:vg C x=some i)(he:PE X e te)(hs:jX e (some (.Name x pos')) pos.line X.env=pure false):PS X (.Assign [.Name x pos'] e pos) (Ua te (vb i)):=by
 obtain⟨h1,h2,h3⟩:=C6 h;exact LD (by rw[O.n];exact O.nd) (by rw[O.n];exact h1) (by rw[O.s];exact Cn h2) he hs (.inl (O.fn x h3))
end
def Dp:List Nat->List D->En->Option En
 |[],[],U=>some U
 |i::is,d::ds,U=>Dp is ds (U.set i (.pu d))
 |_,_,_=>none
noncomputable def rd(C:SC):List Expr->Option (List Nat)
 |[]=>some []
 |e::r=>match e with
  | .Name x _ => (match vg C x, rd C r with
   |some i,some is=>some (i::is)
   |_,_=>none)
  |_=>none
def kr(is:List Nat):D->En->Option En:=λd U=>match d with
 |.tup ds=>Dp is ds U
 |_=>none
theorem Dq:∀{is:List Nat}{ds:List D}{U δ':En},Dp is ds U=some δ'->ds.length=is.length
 |[],[],_,_,_=>rfl
 |[],_::_,_,_,h=>by cases h
 |_::_,[],_,_,h=>by cases h
 |i::is,d::ds,U,δ',h=>by
  have:=Dq (is:=is) (ds:=ds) h;rw[aE,aE,this]
section
variable{X:Cx}{C:SC}{T:GT}{B:Hp}
theorem K6(O:SOk X C T E):∀{es:List Expr}{is:List Nat},rd C es=some is->(∃t:OP,PY X es t/\∀{G H:Hp}{Z:St}{U δ':En}{ds:List D}{vs:List V}{Q:St->Hp->Prop},EnvR (kx X) B G H Z U->DenL (kx X) G ds vs->Dp is ds U=some δ'->
  (∀σ',EnvR (kx X) B G H σ' δ'->Q σ' H)->t vs Z H Q)/\(iV es X.env).length=is.length/\(iV es X.env).findIdx? (·.1)=none
 |[],is,h=>by
  cases h;refine⟨⟨_,DJ,λ{G H Z U δ' ds vs Q} R dl e q=>?_⟩,rfl,rfl⟩;cases ds with
  |nil=>
   cases e;exact⟨dl,q Z R⟩
  |cons _ _=>cases e
 |e::r,is,h=>by
  unfold rd at h;cases e with
  |Name x p=>
   dsimp only at h;cases e1:vg C x with
   |none=>rw[e1]at h;cases h
   |some i=>
    cases e2:rd C r with
    |none=>rw[e1,e2]at h;cases h
    |some is'=>
     rw[e1,e2]at h;cases h;obtain⟨⟨t,p1,p2⟩,p3,p4⟩:=K6 O e2;refine⟨⟨_,Xx (O.tg e1) p1 rfl,λ{G H Z U δ' ds vs Q} R dl e q=>?_⟩,?_,?_⟩
     ·cases ds with
      |nil=>cases e
      |cons d ds=>
       obtain⟨v,vr,rfl,dv,dr⟩:=dl;exact⟨v,vr,rfl,p2 (R.set dv) dr e q⟩
     ·show(iV r X.env).length+1=is'.length+1;rw[p3]
     ·show List.findIdx? _ ((false,_)::iV r X.env)=none;rw[List.findIdx?_cons];simp[p4]
  |_=>cases h
def NC(O:SOk X C T E)(h:rd C es=some is):∃gl,TgOk X B (.Tuple es k p) gl (kr is):=by
 obtain⟨⟨t,p1,p2⟩,p3,p4⟩:=K6 (B:=B) O h;refine⟨_,LN O.calm p1 p3 p4,λ{G H Z U δ' d v Q} R dn e q=>?_⟩;cases d with
 |tup ds=>
  obtain⟨a,vs,rfl,sq,dl⟩:=dn;have hl:=Dq (show Dp is ds U=some δ' from e);exact⟨a,vs,rfl,SqT.of (R.gh _ _ sq),by rw[<-dl.length,hl],p2 R dl e q⟩
 |_=>cases e
end
noncomputable def Zp(C:SC)(tg:Expr):Option (D->En->Option En):=match tg with
 |.Name x _=>(vg C x).map bf
 |.Tuple es _ _=>(rd C es).map kr
 |_=>none
def FD(O:SOk X C T E)(h:Zp C tg=some f):∃gl,TgOk X B tg gl f:=by
 unfold Zp at h;split at h
 ·rename_i x p;cases e:vg C x with
  |none=>rw[e]at h;cases h
  |some i=>rw[e]at h;cases h;exact⟨_,FC (O.tg e)⟩
 ·rename_i es k p;cases e:rd C es with
  |none=>rw[e]at h;cases h
  |some is=>rw[e]at h;cases h;exact NC O e
 ·cases h
section
variable{X:Cx}{G0 B:Hp}{E:EK}{e a k:Expr}{g h:En->Res}{pos:Pos}{st:Stmt}{F F':En->Out}
def ny(g:En->Res):En->Out:=λU=>(g U).then λ_=>.nx U
def MA(ha:gq X B E e g)(hs:jX e none pos.line X.env=pure false):u3 X G0 B E (.Expr e pos) (ny g):=PS.imp (Ib ha hs) λD Z H ⟨G,U,R,ex,q⟩=>
 ⟨G,U,R,(yh ex q).mono λd _ q v G' H' e1 dn=>q Z G' H' e1.gg (R.ext e1) (ex.trans e1)⟩
def HQ:En->Out:=λ_=>.rt .non
def NZ:u3 X G0 B E (.Return none pos) HQ:=PS.imp EZ λD Z H ⟨G,U,R,ex,q⟩=>q .non G H ex rfl
end
section
variable{T:GT}{ev:Ev}{X:Cx}{C:SC}{G0 B:Hp}{E:XK}
def qz(c:Str)(r:En->ResL):En->Out:=λU=>match r U with
 |.ok _=>.er c
 |.er c'=>.er c'
 |.st=>.st
def FY(h:jc T ev)(O:XOk X C T E)(hx:T.xs.exc x=true)(hg:Iz C x=true)(hn:(e::es).all ja=true)(hl:(e::es).length<=1000):
  u3 X G0 B (ek (kx X) E) (.Raise (some (.Call (.Name x np) (e::es) [] cpos)) none pos) (qz x (rj ev C (e::es))):=by
 obtain⟨Cc,bm,nid,hm,hxx,HB⟩:=O.exc x hx;obtain⟨g1,g2⟩:=O.gl hg;have hn':=hn;rw[cS,aF]at hn';refine PS.imp (X8 O.calm g1 hm hxx HB O.goes (qi (B:=B) h O hn) g2 (bc hn'.1) (ub hn'.2)) λD Z H ⟨G,U,R,ex,q⟩=>⟨G,U,R,?_⟩;unfold qz at q;cases er:rj ev C (e::es) U with
 |ok ds=>
  rw[er]at q;intro vs G' H' e1 al;refine⟨?_,?_⟩
  ·have:=al.length.2;rw[aO]at this;rw[this];exact cB hl (by decide)
  ·have z:=q G' H' (ex.trans e1);have z':E (.ref (ym X.mg x)) none H':=z;rw[mx hm]at z';exact z'
 |er c=>rw[er]at q;exact λG' H' e1=>q G' H' (ex.trans e1)
 |st=>rw[er]at q;exact q
def GK:Expr->Option (Expr×List Expr×List iA×Pos)
 |.Call f a k p=>some (f,a,k,p)
 |_=>none
def U7(h:GK e=some (f,a,k,p)):e=.Call f a k p:=by
 cases e<;>first|(cases h;rfl)|cases h
def HZ:Expr->Option (Str×Pos)
 |.Name x p=>some (x,p)
 |_=>none
def Xa(h:HZ e=some (x,p)):e=.Name x p:=by
 cases e<;>first|(cases h;rfl)|cases h
def Yr:Stmt->Option (Option Expr×Option Expr×Pos)
 |.Raise e c p=>some (e,c,p)
 |_=>none
def Tv{st:Stmt}{e c:Option Expr}{p:Pos}(h:Yr st=some (e,c,p)):st=.Raise e c p:=by
 cases st<;>first|(cases h;rfl)|cases h
noncomputable def Ic(st:Stmt):Option (Str×Expr×List Expr):=(Yr st).bind λq=>q.1.bind λw=>(GK w).bind λc=>(HZ c.1).bind λx=>match c.2.1,c.2.2.1,q.2.1 with
 |e::es,[],none=>some (x.1,e,es)
 |_,_,_=>none
def Tu{st:Stmt}{x:Str}{e:Expr}{es:List Expr}(h:Ic st=some (x,e,es)):∃np cpos pos,st=.Raise (some (.Call (.Name x np) (e::es) [] cpos)) none pos:=by
 unfold Ic at h;simp only[Option.bind_eq_some_iff]at h;obtain⟨⟨q1,q2,q3⟩,h1,w,h0,⟨c1,c2,c3,c4⟩,h2,⟨y1,y2⟩,h3,h4⟩:=h;dsimp only at h0 h2 h3 h4;split at h4
 ·cases h4;exact⟨_,_,_,by rw[Tv h1,h0,U7 h2,Xa h3]⟩
 ·cases h4
noncomputable def zm(T:GT)(ev:Ev)(C:SC)(st:Stmt):En->Out:=match Ic st with
 |some (x,e,es)=>if T.xs.exc x && Iz C x && (e::es).all ja && decide ((e::es).length<=1000)then qz x (rj ev C (e::es))else wm
 |none=>wm
def Ys(h:jc T ev)(O:XOk X C T E){st:Stmt}:u3 X G0 B (ek (kx X) E) st (zm T ev C st):=by
 unfold zm;cases hp:Ic st with
 |none=>exact pv
 |some t=>
  obtain⟨x,e,es⟩:=t;obtain⟨np,cpos,pos,rfl⟩:=Tu hp;dsimp only
  by_cases hc:(T.xs.exc x && Iz C x && (e::es).all ja && decide ((e::es).length<=1000))=true
  ·rw[aG hc];simp only[aF]at hc;exact FY h O hc.1.1.1 hc.1.1.2 hc.1.2 (of_decide_eq_true hc.2)
  ·rw[aJ hc];exact pv
end
open AutoSeq1 (wpAny_loadPart')
def Draws.later{prog:bQ}{w:bZ}{A:cG}{it:Addr}{fp:List Addr}{n:Nat}{P:Nat->aC->Prop}{St:Nat->Heap->Prop}(D:PySem.Draws prog w A it fp n P St):
  PySem.Draws prog w A it fp (n+1) (λi v=>∃j,i=j+1/\P j v) (λi h=>∃j,i=j+1/\St j h) where
 live:=λ_ h ⟨j,_,q⟩=>D.live j h q
 frame:=λ_ h h' ⟨j,e,q⟩ k=>⟨j,e,D.frame j h h' q k⟩
 item:=λi s Q E hi ⟨j,e,q⟩ hQ=>D.item j s Q E (by lia) q λx h' tk p st sb=>hQ x h' tk ⟨j,e,p⟩ ⟨j+1,by lia,st⟩ sb
 done:=λs Q E ⟨j,e,q⟩ hE=>D.done s Q E ((show j=n by lia)▸q) hE
def CW(t:Tok):List (Str×aC):=[(fX "start",.int 1 t)]
def IA(n:Addr):Obj:={cls:=.type "enumerate",data:=.fields #[.none,.bool false,.ref n,dR 1,.none,.none]}
def AW(l:Addr):Obj:={cls:=.type "list_iterator",data:=.fields #[.ref l,.int 0 0]}
def CF(l:Addr)(items:Array aC)(n:Nat)(dct:Option Addr)(sl:Array (Option aC))(t:Tok):
  Meets (Builtin.«enumerate.__new__» ⟨[.type "enumerate",.ref l],CW t⟩) (λ_ R s=>s.heap.get? l=some {cls:=.type "list",dict:=dct,data:=.seq items n,slots:=sl}/\
   R (.ok (.ret (.ref (s.heap.push (AW l)).objs.size))) {s with heap:=(s.heap.push (AW l)).push (IA s.heap.objs.size)}):=
 .of_wp λprog w A R s h=>by
  obtain⟨hp,g,d,tk,os⟩:=s;obtain⟨hl,h⟩:=h;have hsub:=sub_enumerate;have f1:=AutoSeq1.idx_int;have hL:Heap.IsList (Shared.heap ⟨hp,g,d,tk,os⟩) l items:=⟨_,hl,rfl,n,rfl⟩;unfold CW
  wp_walk using iD hl
  refine wpAny_stack_any λst=>aB ?_;split
  ·rename_i c _ _ _ _ _;cases (c==gE "enumerate")
   ·wp_walk using iD hl,fB hL
    exact⟨_,rfl,h⟩
   ·wp_walk using iD hl,fB hL
    exact⟨_,rfl,h⟩
  ·wp_walk using iD hl,fB hL
   exact⟨_,rfl,h⟩
def ND(a:aC)(t:Tok):checkTypeCall "enumerate" ⟨[a],CW t⟩=pure ():=by kernel_rfl
def KS(a:aC)(t:Tok):nY "enumerate.__new__" ⟨[.type "enumerate",a],CW t⟩=pure ():=by kernel_rfl
def IX(a b:aC)(t:Tok):argsOk "object.__init__" ⟨[a,b],CW t⟩:=by
 unfold argsOk;rw[signature?_of (id:="object.__init__") (n:="__tini__".toList) (o:="tcejbo".toList) (by kernel_rfl) F.owner_object]
 kernel_rfl
section
variable{prog:bQ}{w:bZ}{A:cG}{E:aC->aI->Prop}{s:aI}
def Wn{o x:aC}{t:Tok}:Meets (Builtin.«object.__init__» ⟨[o,x],CW t⟩) (λ_ R s=>s.TypeIs o "enumerate"/\R (.ok (.ret .none)) s):=
 .of_wp λprog w A R s ⟨hT,hq⟩=>by
  have hl:=F.called_enumerate.init.lookup;have hm:=F.called_enumerate.made;have hne:(some "enumerate.__new__" !=some "object.__new__")=true:=by decide
  repeat (any_goals (first|assumption|wp_step))
  exact⟨_,rfl,hq⟩
def Va{l:Addr}{items:Array aC}{t:Tok}{Q:aC->aI->Prop}(hL:s.heap.IsList l items)
  (h:∀h',IsEnum h' (s.heap.objs.size+1) s.heap.objs.size 1 .none->h'.IsListIter s.heap.objs.size l 0->(∀b o,s.heap.get? b=some o->h'.get? b=some o)->Q (.ref (s.heap.objs.size+1)) {s with heap:=h'}):
  bA (bH prog w) A (call (.type "enumerate") [.ref l] (CW t)) Q E s:=by
 obtain⟨⟨c,dct,dt,sl⟩,hl,hc,n,hd⟩:=hL;replace hc:c=.type "list":=hc;replace hd:dt=.seq items n:=hd;subst hc hd;obtain⟨c,tl,hmro⟩:=F.called_enumerate.mro;have hmade:=F.called_enumerate.made;have hsub:=F.called_enumerate.sub;have hct:=ND (.ref l) t;have hcn:=KS (.ref l) t;refine mJ (jR ?_);show bA _ _ (callAny (.type "enumerate") _) _ _ _;refine aB ⟨mP _ (by decide+kernel),eB F.entry_type_call ?_⟩;rw[mQ (kZ _ _ _) (units_type_call_type _ _ _)];have h1:=F.called_enumerate.notType;have h2:=F.called_enumerate.canCreate
 repeat (any_goals (first|assumption|wp_step))
 have step:iO (bH prog w) A.in1 (.call (.builtin "enumerate.__new__") ⟨[.type "enumerate",.ref l],CW t⟩) (λr s1=>r=.ok (.ret (.ref (s.heap.objs.size+1)))/\s1={s with heap:=(s.heap.push (AW l)).push (IA s.heap.objs.size)}) s:=
  iY F.called_enumerate.plain F.entry_enumerate_new (lR hcn (CF l items n dct sl t prog w A.in1 (λr s1=>r=.ok (.ret (.ref (s.heap.objs.size+1)))/\s1={s with heap:=(s.heap.push (AW l)).push (IA s.heap.objs.size)}) s ⟨hl,by rw[show(s.heap.push (AW l)).objs.size=s.heap.objs.size+1 from fA ..],rfl⟩))
 refine eP step λr s1 hr=>?_;obtain⟨rfl,rfl⟩:=hr;have he:IsEnum ((s.heap.push (AW l)).push (IA s.heap.objs.size)) (s.heap.objs.size+1) s.heap.objs.size 1 .none:=by
  have:=aX (s.heap.push (AW l)) (o:=IA s.heap.objs.size) rfl;rw[show(s.heap.push (AW l)).objs.size=s.heap.objs.size+1 from fA ..]at this;exact this
 have key:=h _ he ⟨_,aD _ (aX _ rfl),rfl,rfl⟩ λb o x=>aD _ (aD _ x);have hT:Shared.TypeIs {s with heap:=(s.heap.push (AW l)).push (IA s.heap.objs.size)} (.ref (s.heap.objs.size+1)) "enumerate":=⟨_,he,rfl⟩;generalize ({s with heap:=(s.heap.push (AW l)).push (IA s.heap.objs.size)}:aI)=s1 at key hT⊢;have hli:=F.called_enumerate.init.lookup;have hbi:=F.called_enumerate.init.bind (.ref (s.heap.objs.size+1))
 repeat (any_goals (first|assumption|wp_step))
 have step2:iO (bH prog w) A.in1 (.call (.builtin "object.__init__") ⟨[.ref (s.heap.objs.size+1),.ref l],CW t⟩) (λr s2=>r=.ok (.ret .none)/\s2=s1) s1:=
  iY F.called_enumerate.init.plain F.entry_object_init (F.called_enumerate.init.check _ _ _ _ _ _ _ _ hT (IX _ _ t) (Wn prog w A.in1 (λr s2=>r=.ok (.ret .none)/\s2=s1) s1 ⟨hT,rfl,rfl⟩))
 refine eP step2 λr s2 hr=>?_;obtain⟨rfl,rfl⟩:=hr
 repeat (any_goals (first|assumption|wp_step))
end
def BX{prog:bQ}{w:bZ}{A:cG}{E:aC->aI->Prop}{s:aI}{e it l:Addr}{i:Nat}{n:Int}{items:Array aC}{old:aC}{Q:Option aC->aI->Prop}(hh:A.handled=none)
  (he:IsEnum s.heap e it n old)(hit:s.heap.IsListIter it l i)(hl:s.heap.IsList l items)(hx:items[i]?=none)
  (hQ:∀h',Heap.ExtBut it s.heap h'->Q none {s with heap:=h'}):bA (bH prog w) A (jV (.ref e)) Q E s:=
 wpAny_pyNext_enum_endD (D:=⟨λj h (st:j=0/\h.IsListIter it l i/\h.IsList l items)=>let ⟨o,ho,_⟩:=st.2.1;⟨o,ho⟩,λj h h' st hk=>⟨st.1,st.2.1.at λo e=>hk it (by simp) o e,st.2.2.at λo e=>hk l (by simp) o e⟩,λj s Q E hj=>absurd hj (lX _),λs Q E st hE=>wpAny_nextOf_list_end hh st.2.1 st.2.2 hx λh' x a b=>hE h' x a b⟩) (P:=λ_ _=>True) (fp:=[it,l]) (n:=0) he ⟨rfl,hit,hl⟩ hQ
def HC(K:aU)(a:Addr):It:=
 ⟨λi H=>∃xs x,SqL K H a xs/\xs[i]?=some x,λi H v H'=>∃p x,H p=none/\v=.ref p/\H'=upd H p (.tup [.int ((i+1:Nat):Int),x])/\∀xs,SqL K H a xs->xs[i]?=some x,λi H=>∃xs,SqL K H a xs/\xs.length<=i⟩
def ZU(e it a:Addr)(i:Nat)(h:Heap):Prop:=(∃old,IsEnum h e it ((i+1:Nat):Int) old)/\h.IsListIter it a i
def Zx{P:bQ}{w:bZ}{K:aU}{tes:List Expr}{k1}{tp:Pos}(a e it:Addr)(hne:e≠it):Turn P w K (.Tuple tes k1 tp) (HC K a) [e,it] e (ZU e it a) where
 mem:=by simp
 obj:=λi h st b hb=>by
  obtain⟨⟨old,he⟩,o,ho,hc,hd⟩:=st;rcases List.mem_cons.mp hb with rfl|hb
  ·exact⟨_,he,λv z=>by
    have z':Data.fields _=Data.cell v:=z;cases z'⟩
  ·have e:b=it:=by simpa using hb
   subst e;exact⟨o,ho,λv z=>by rw[hd]at z;cases z⟩
 keep:=λi h h' st k=>⟨let ⟨old,he⟩:=st.1;⟨old,k e (by simp) _ he⟩,st.2.at λo q=>k it (by simp) o q⟩
 item:=by
  intro X hP hw hK hc i pins s Z H E I hf st hg;subst hP hw hK;obtain⟨xs,x,hq,hx⟩:=hg;obtain⟨its,rv,p,hz⟩:=I.list hq;obtain⟨u,hu,ru⟩:=rv.get hx;obtain⟨⟨old,he⟩,hit⟩:=st;obtain⟨f0,f1,f2,f3,f4,f5⟩:=hf e (by simp);obtain⟨g0,g1,g2,g3,g4,g5⟩:=hf it (by simp);have jM:H s.heap.objs.size=none:=I.hok.fresh (aH _);have elt:e<s.heap.objs.size:=aT he;have hea:e≠a:=λz=>by
   obtain⟨o,ho,hcl,_⟩:=p.isList;rw[<-z,he]at ho;cases ho;exact absurd (show gE "enumerate"=gE "list" from hcl) (by decide)
  have hia:a≠it:=λz=>by
   obtain⟨o,ho,hcl,_⟩:=p.isList;obtain⟨o',ho',hc',_⟩:=hit;rw[z,ho']at ho;cases ho;rw[hc']at hcl;exact absurd hcl (by decide)
  have hil:i<its.toArray.size:=by
   have:=(List.getElem?_eq_some_iff.mp hu).1;simpa using this
  refine wpAny_pyNext_enum_itemD (Draws.later (PySem.Draws.list (A:=X.A.in1) (I.ok.hd hc) it a hia its.toArray)) (i:=i+1) he ⟨i,rfl,hit,p.isList⟩ (Nat.succ_lt_succ hil) hne (by simpa using⟨hne,hea⟩) λu' h1 tk hpu he1 st1 ht1 hz1 hk1=>?_;obtain⟨j,ej,hpu⟩:=hpu;obtain rfl:i=j:=by lia
  obtain rfl:u=u':=by
   have hu':its.toArray[i]?=some u:=by simpa using hu
   rw[hu']at hpu;cases hpu;rfl
  obtain⟨j,ej,hit1,_⟩:=st1;obtain rfl:j=i+1:=by lia
  refine⟨_,rfl,wpAny_letOwnedTupleGo_enum he1 λh2 he2 sb=>?_⟩;have sb':cK e h1 h2:=sb;have k2:∀b o,b≠e->b≠it->s.heap.get? b=some o->h2.get? b=some o:=λb o h1' h2' q=>sb'.extBut b o h1' (hk1 b o h1' h2' q);have t2:h2.get? s.heap.objs.size=some {cls:=.type "tuple",data:=.seq #[.int ((i+1:Nat):Int) tk,u]}:=sb'.extBut _ _ (jA elt) ht1;have old':∀{b:Addr}{o:HO},H b=some o->b≠s.heap.objs.size/\b≠e/\b≠it:=λ{b o} q=>⟨aq q jM,aq q f0,aq q g0⟩;have ch:∀b,b∉[e,it]->b≠e/\b≠it:=λb hb=>by simpa using hb
  have I2:Inv X pins Z (upd H s.heap.objs.size (.tup [.int ((i+1:Nat):Int),x])) {s with heap:=h2,toks:=tk+1}:=by
   refine I.step (g':=s.gens) (d':=s.drawn) (ch:=[e,it]) (λb hb=>?_) (λb o _ _ hc q _=>k2 b o (ch b hc).1 (ch b hc).2 q) (λb o _ _ hc q _=>⟨o.slots,k2 b o (ch b hc).1 (ch b hc).2 q⟩) (λb o _ q n=>?_) (λb o hc q=>⟨o,k2 b o (ch b hc).1 (ch b hc).2 q⟩)
    (λb ys q=>by rw[ak (old' q).1];exact q) (λb o v q=>by rw[ak (old' q).1];exact q) (λb y q=>by rw[ak (old' q).1];exact q) (λm hm=>?_) (λb v q=>?_) I.bare
   ·rcases List.mem_cons.mp hb with rfl|hb
    ·exact⟨f3,f1,f4,f5⟩
    ·have z:b=it:=by simpa using hb
     subst z;exact⟨g3,g1,g4,g5⟩
   ·rw[ak (bJ (aT q))];exact n
   ·obtain⟨o,es,ep,ho,r⟩:=hm;exact⟨o,es,ep,k2 _ o (fM f1) (fM g1) ho,r⟩
   ·by_cases hb:b=s.heap.objs.size
    ·subst hb;rw[ar]at q;cases q;exact⟨by rw[cD];simp,[.int ((i+1:Nat):Int) tk,u],.cons ⟨_,rfl⟩ (.cons ru .nil),_,t2,rfl,0,rfl⟩
    ·rw[ak hb]at q;refine(I.hok b v q).stay (λb' v' hb' r=>k2 b' v' ?_ ?_ r) (λb' z=>by rw[ak (old' z).1];exact z) (λb' ys z=>by rw[ak (old' z).1];exact z) λb' o' u' z=>by rw[ak (old' z).1];exact z
     ·rcases hb' with z|z
      ·rw[z];exact(old' q).2.1
      ·exact(old' z).2.1
     ·rcases hb' with z|z
      ·rw[z];exact(old' q).2.2
      ·exact(old' z).2.2
  refine⟨.ref s.heap.objs.size,_,I2,rfl,⟨_,x,jM,rfl,rfl,λys hy=>by rw[I.list_inj hy hq];exact hx⟩,⟨⟨u,?_⟩,?_⟩,λb hb=>?_⟩
  ·have:((i+1+1:Nat):Int)=((i+1:Nat):Int)+1:=by push_cast;rfl
   rw[this];exact he2
  ·exact hit1.at λo q=>sb'.extBut it o (fM hne) q
  ·have z:=(hf b hb).1;have:b<s.heap.objs.size:=by
    rcases List.mem_cons.mp hb with rfl|hb
    ·exact elt
    ·have z:b=it:=by simpa using hb
     subst z;obtain⟨o,ho,_⟩:=hit;exact aT ho
   rw[ak (bJ this)];exact z
 done:=by
  intro X hP hw hK hc i pins s Z H E I hf st hg;subst hP hw hK;obtain⟨xs,hq,hx⟩:=hg;obtain⟨its,rv,p,hz⟩:=I.list hq;obtain⟨⟨old,he⟩,hit⟩:=st;obtain⟨g0,g1,g2,g3,g4,g5⟩:=hf it (by simp);have hl:=rv.length;have hia:a≠it:=λz=>by
   obtain⟨o,ho,hcl,_⟩:=p.isList;obtain⟨o',ho',hc',_⟩:=hit;rw[z,ho']at ho;cases ho;rw[hc']at hcl;exact absurd hcl (by decide)
  have hil:its.toArray[i]?=none:=by simp;lia
  exact BX (I.ok.hd hc) he hit p.isList hil λh' eb=>⟨rfl,I.turned (t':=s.toks) (λb o hb e=>eb b o hb e) g0 g1 g3 g4 g5⟩
 self:=λ_ _ _ _ _ st h=>let ⟨_,he⟩:=st.1;kX he h
def Kd(g:En->Res):En->ResL:=λU=>match g U with
 |.ok (.lst ds)=>.ok (je 1 ds)
 |.ok _=>.st
 |.er c=>.er c
 |.st=>.st
def Qc{K:KA}{a:Addr}{G1:Hp}{ds:List D}{vs:List V}{S:Hp->Hp->Prop}(h:∀G H,S G H->Same G H->SqL K H a vs/\Same G1 G)(dl:DenL K G1 ds vs):Aq K (HC K a) (je 1 ds) S:=λi G H hS sg=>by
 obtain⟨q,g⟩:=h G H hS sg;refine⟨λd ed=>?_,λhl=>⟨vs,q,by rw[yy]at hl;rw[<-dl.length];exact hl⟩⟩;rw[yx]at ed;cases e0:ds[i]? with
 |none=>rw[e0]at ed;cases ed
 |some d0=>
  rw[e0,Nat.add_comm 1 i]at ed;cases ed;obtain⟨v,ev,dv⟩:=dl.get e0;refine⟨⟨vs,v,q,ev⟩,λx H' ⟨p,y,hp,e1,e2,e3⟩=>?_⟩;subst e1 e2;have z:=e3 vs q;rw[ev]at z;cases z;exact⟨_,Ext.new sg (.tup [.int ((i+1:Nat):Int),v]) hp,nc sg hp (DenL.append (DenL.one (d:=.int ((i+1:Nat):Int)) rfl) (DenL.one (dv.mono g)))⟩
section
variable{X:Cx}{B:Hp}{E:EK}{e:Expr}{g:En->Res}{pos p tp cp kp:Pos}{tes:List Expr}{k1 kd:Nat}
def WQ{G H:Hp}{U:En}{P:List D->Prop}(q:ResLP E G H (Kd g U) P):ResP E G H (g U) λd=>∃ds,d=.lst ds/\P (je 1 ds):=by
 unfold Kd at q;cases e:g U with
 |ok d=>
  rw[e]at q;cases d with
  |lst ds=>exact⟨ds,rfl,q⟩
  |_=>exact q.elim
 |er c=>rw[e]at q;exact q
 |st=>rw[e]at q;exact q
def Z8{M:Model}{A:cG}{E:aC->aI->Prop}{s:aI}{T:String}{x:Sem aC}{kv:Sem aC}{k:Str}{Q:aC->aI->Prop}
  (h:bA M A (spliced [(false,x)]) (λvs s1=>bA M A (evalAll [kv]) (λks s2=>bA M A (call (.type T) vs ([k].zip ks)) Q E s2) E s1) E s):bA M A (callWith pos (.type T) [] [(false,x)] [(some k,kv)]) Q E s:=by
 have h':bA M A (evalArgs (.type T) true [(false,x)] [(some k,kv)]) (λa s1=>bA M A (call (.type T) ([]++a.pos) a.kw) Q E s1) E s:=evalArgs_kwB rfl h;unfold callWith;refine aA (cM (bU h' (λa s1 h1=>aA (wpAny_standAt (aA (aB ?_)))) λ_ _ z=>z));exact aA (bU h1 (λr s2 hr=>aA (cM (wpAny_point (aB hr)))) λ_ _ z=>z)
def LM(hg:Gl X "enumerate")(hm:X.mg "enumerate"=none)(h:GP X B E e g)(he:bE [e] X.env=(false,eval e X.env)::bE [] X.env):
  AR X B E (.Tuple tes k1 tp) (.Call (.Name "enumerate" p) [e] [⟨some "start",.Constant (.int 1) kd cp,kp⟩] pos) (Kd g):=by
 intro pins s Z H R I ⟨G,U,Rr,q⟩;have ha:PA X [e] (Zl (XN (kx X) B E g) FF):=oq h zf he;refine eS (vw I hg hm (by decide+kernel:gO "enumerate"=some (.type "enumerate")) ?_ (by decide) (by decide));have ha':=ha pos pins s Z H (λvs H1=>∃a,vs=[.ref a]/\(∃xs,SqL X.K H1 a xs)/\R (HC X.K a) H1) I ⟨G,U,Rr,(WQ q).mono λd _ ⟨ds,ed,q⟩ v G1 H1 e1 ax=>?_⟩
 ·rw[he]at ha'⊢;refine Z8 (i7 ha' λus s1 ⟨vs,H1,I1,r1,a,ev,hq,q1⟩=>?_);subst ev;obtain⟨u,rfl,ru⟩:=mh r1;cases ru;refine kws_cons (kp:=kp) (name:="start") (i7 (Xv (X:=X) (i:=1) (j:=kd) (pos:=cp) pins s1 Z H1 (λv H2=>v=.int 1/\H2=H1) I1 ⟨rfl,rfl⟩) λf s2 ⟨fv,H2,I2,r2,z1,z2⟩=>kws_nil ?_);subst z1 z2;obtain⟨ct,rfl⟩:=r2;obtain⟨xs,hq⟩:=hq;obtain⟨its,rv,pl,_⟩:=I2.list hq;refine Va (t:=ct) pl.isList λh' he' hi' hk'=>?_;refine kX he' ⟨s2.heap.objs.size+1,[s2.heap.objs.size+1,s2.heap.objs.size],_,_,H2,rfl,I2.kept (t':=s2.toks) hk',Zx a _ _ (Nat.succ_ne_self _),⟨⟨_,he'⟩,hi'⟩,λb hb=>?_,q1⟩;rcases List.mem_cons.mp hb with rfl|hb
  ·exact I2.fpOk (fZ _) (I2.hok.fresh (fZ _))
  ·have z:b=s2.heap.objs.size:=by simpa using hb
   subst z;exact I2.fpOk (aH _) (I2.hok.fresh (aH _))
 ·subst ed;have bh:Same B H1:=Rr.bh.trans e1.hh;rcases ax with ⟨a,vs,rfl,s,dl⟩|⟨ds2,a,vs,z,rfl,s,dl⟩|⟨t,kvs,a,z,_⟩
  ·exact⟨a,rfl,⟨vs,SqL.mono e1.gh s⟩,q _ G1 H1 e1 (Qc (λG2 H2 ⟨x1,x2⟩ sg=>⟨SqL.mono (x1.trans sg) s,x1⟩) dl)⟩
  ·cases z;exact⟨a,rfl,⟨vs,SqL.mono bh s⟩,q _ G1 H1 e1 (Qc (λG2 H2 ⟨x1,x2⟩ sg=>⟨SqL.mono x2 s,x1⟩) dl)⟩
  ·cases z
end
def D0(C:SC)(tg iter:Expr):Option Expr:=match tg,iter with
 |.Tuple _ _ _,.Call (.Name y _) [e] [kw] _=>if decide (y="enumerate") && Iz C y && ja e && decide (kw.arg=some (fX "start")) && decide (JQ kw.value=some 1)then some e else none
 |_,_=>none
def Io(ev:Ev)(C:SC)(tg iter:Expr):En->ResL:=match D0 C tg iter with
 |some e=>Kd (V9 ev C e)
 |none=>Ow ev C tg iter
def QW{T:GT}{ev:Ev}{X:Cx}{C:SC}{B:Hp}{E:XK}{tg:Expr}(h:jc T ev)(O:XOk X C T E)(e:Expr):AR X B (ek (kx X) E) tg e (Io ev C tg e):=by
 unfold Io;cases he:D0 C tg e with
 |none=>exact QX h O e
 |some a=>
  unfold D0 at he;split at he
  ·rename_i y p a' kw pos;split at he
   ·rename_i c;cases he;simp only[aF,decide_eq_true_eq]at c;obtain⟨⟨⟨⟨rfl,h3⟩,h4⟩,h5⟩,h6⟩:=c;obtain⟨ka,kv,kp⟩:=kw;obtain⟨kd,cp,h7⟩:=BM h6;replace h5:ka=some (fX "start"):=h5;replace h7:kv=.Constant (.int 1) kd cp:=h7;subst h5;subst h7;exact LM (O.gl h3).1 (O.bl _ (by decide)) (Pm h O a) (bc h4)
   ·cases he
  ·cases he
def Ni(i:Nat):En->ResE:=λU=>match U[i]? with
 | some (.ow ds) => (match ds[ds.length - 1]? with
  |some d=>.ok d (U.set i (.ow (ds.take (ds.length - 1))))
  |none=>.st)
 |_=>.st
def IB{X:Cx}{G0 B:Hp}{E:EK}{i:Nat}{x:Str}{p ap cp:Pos}(hv:PE X (.Name x p) (Iq i))(hl:(ap.endLine==cp.line)=true):AU X G0 B E (.Call (.Attribute (.Name x p) "pop" ap) [] [] cp) (Ni i):=
 PE.imp (LW kG PySem.F.slot_list_pop PySem.F.type_list_pop KU hv rfl hl) λZ H Q ⟨G,U,R,ex,q⟩=>by
  unfold Ni at q;cases ed:U[i]? with
  |none=>rw[ed]at q;exact q.elim
  |some sl=>
   rw[ed]at q;cases sl with
   |ow ds=>
    dsimp only at q;obtain⟨l,vs,q1,q2,q3,q4,q5⟩:=R.owAt ed;cases e:ds[ds.length - 1]? with
    |none=>rw[e]at q;exact q.elim
    |some d=>
     rw[e]at q;obtain⟨v,ev,dv⟩:=q3.get e;have hn:=q3.length;have d3:=q3.take (ds.length - 1);have e3:vs.take (ds.length - 1)=vs.dropLast:=by rw[hn,List.dropLast_eq_take]
     rw[e3]at d3;rw[hn]at ev;exact⟨.ref l,q1,.inl ⟨rfl,vs,SqL.of q2⟩,l,vs,v,rfl,rfl,q2,ev,q G _ (Same.refl G) (EnvR.wr R ed q1 q2 d3) (Ext.wr ex q4 q5) v dv⟩
   |no=>exact q.elim
   |pu _=>exact q.elim
   |bo _=>exact q.elim
   |od _ _=>exact q.elim
mutual
def M8:Nat->GT->Expr->List Str
 |0,_,_=>[]
 |n+1,T,e=>match e with
  |.Name x _=>[x]
  |.IfExp c a b _=>B4 n T c++M8 n T a++M8 n T b
  |.BoolOp _ vs _=>vs.flatMap (M8 n T)
  |e=>B4 n T e
def B4:Nat->GT->Expr->List Str
 |0,_,_=>[]
 |n+1,T,e=>match e with
  |.BinOp a _ b _=>B4 n T a++B4 n T b
  |.UnaryOp _ a _=>B4 n T a
  |.BoolOp _ vs _=>vs.flatMap (B4 n T)
  |.IfExp c a b _=>B4 n T c++M8 n T a++M8 n T b
  |.Compare l _ rs _=>B4 n T l++rs.flatMap (B4 n T)
  |.Tuple es _ _=>es.flatMap (M8 n T)
  |.List es _=>es.flatMap (M8 n T)
  |.Subscript a i _=>B4 n T a++B4 n T i
  |.ListComp elt gens _ _=>M8 n T elt++gens.flatMap λg=>B4 n T g.iter++g.ifs.flatMap (B4 n T)
  | .Call (.Name f _) args _ _ => (match T.fns f with
   |some s=>(s.ms.zip args).flatMap λp=>if p.1 then B4 n T p.2 else M8 n T p.2
   |none=>args.flatMap (B4 n T))
  |.Call (.Attribute o _ _) args _ _=>B4 n T o++args.flatMap (M8 n T)
  |_=>[]
end
noncomputable def YE(T:GT)(st:Stmt):List Str:=match st with
 |.Return (some e) _=>M8 30 T e
 |.Assign [.Name _ _] e _=>M8 30 T e
 |.Assign [.Subscript _ k _] e _=>M8 30 T e++B4 30 T k
 |.AugAssign _ _ e _=>B4 30 T e
 |.Expr (.Call (.Attribute (.Name _ _) m _) args _ _) _=>if m="extend" then args.flatMap (B4 30 T)else args.flatMap (M8 30 T)
 |.Expr e _=>B4 30 T e
 |.If c _ _ _=>B4 30 T c
 |.For _ iter _ _ _=>M8 30 T iter
 |.Try [.Expr e _] _ _ _ _=>B4 30 T e
 |.Try [.Assign [.Name _ _] e _] _ _ _ _=>B4 30 T e
 |_=>[]
def FQ(C:SC)(xs:List Str):List Nat:=xs.filterMap (slot C)
noncomputable def BL(T:GT)(C:SC)(x y:Str):Bool:=decide (x=y) && decide (slot C x=none) && Iz C x && (T.fns x).isNone
def BK(O:XOk X C T E)(h:BL T C x y=true):x=y/\Gl X x:=by
 unfold BL at h;simp only[aF,decide_eq_true_eq]at h;exact⟨h.1.1.1,(O.gl h.1.2).1⟩
noncomputable def Ma(T:GT)(ev:Ev)(C:SC)(e:Expr):Option (En->Res):=match e with
 |.List es _=>if es.all ja then some (ft (rj ev C es))else none
 |.Call (.Name x _) [a] [] _=>if BL T C x "list" then(if ja a then some (g1 fh (og ev C a))else none)else none
 |.BinOp (.List es _) op b _=>if Qb op && es.all ja then some (Kh (ft (rj ev C es)) (og ev C b))else none
 |_=>none
noncomputable def uc(ev:Ev)(C:SC)(e:Expr):Option (En->ResE):=match e with
 |.Call (.Attribute (.Name x _) m ap) [k,v] [] cp=>if m="setdefault" && ja k && ja v && (ap.endLine==cp.line)then(slot C x).map λi=>ju i (og ev C k) (ev C v)else none
 |.Call (.Attribute (.Name x _) m ap) [] [] cp=>if m="pop" && (ap.endLine==cp.line)then(slot C x).map Ni else none
 |_=>none
noncomputable def L9(ev tv:Ev)(C:SC)(e:Expr):Option (En->ResE):=match e with
 | .IfExp c a b _ => (match uc ev C a, uc ev C b with
  |some f,none=>some (Wc (tv C c) f (Wf (ev C b)))
  |none,some f=>some (Wc (tv C c) (Wf (ev C a)) f)
  |some f,some f'=>some (Wc (tv C c) f f')
  |none,none=>none)
 |e=>uc ev C e
section
variable{T:GT}{ev tv:Ev}{X:Cx}{C:SC}{G0 B:Hp}{E:XK}
def Ka(h:jc T ev)(O:XOk X C T E)(hf:uc ev C e=some f):AU X G0 B (ek (kx X) E) e f:=by
 unfold uc at hf;split at hf
 ·rename_i x p m ap k v cp
  by_cases hc:(decide (m="setdefault") && ja k && ja v && (ap.endLine==cp.line))=true
  ·rw[aG hc]at hf;simp only[aF,decide_eq_true_eq]at hc;obtain⟨⟨⟨rfl,h2⟩,h3⟩,h4⟩:=hc;cases hs:slot C x with
   |none=>rw[hs]at hf;cases hf
   |some i=>
    rw[hs]at hf;cases hf;exact Na (by have:=O.units;lia) (O.var hs) (eu h O k) (h X C B E v O) h2 h3 h4
  ·rw[aJ hc]at hf;cases hf
 ·rename_i x p m ap cp
  by_cases hc:(decide (m="pop") && (ap.endLine==cp.line))=true
  ·rw[aG hc]at hf;simp only[aF,decide_eq_true_eq]at hc;obtain⟨rfl,h4⟩:=hc;cases hs:slot C x with
   |none=>rw[hs]at hf;cases hf
   |some i=>
    rw[hs]at hf;cases hf;exact IB (O.var hs) h4
  ·rw[aJ hc]at hf;cases hf
 ·cases hf
def WO(h:jc T ev)(ht:Eb T tv)(O:XOk X C T E)(hf:L9 ev tv C e=some f):AU X G0 B (ek (kx X) E) e f:=by
 unfold L9 at hf;split at hf
 ·rename_i c a b p;cases h1:uc ev C a with
  |none=>
   cases h2:uc ev C b with
   |none=>rw[h1,h2]at hf;cases hf
   |some f'=>rw[h1,h2]at hf;cases hf;exact Vx (ht X C B E c O) (P0 (h X C B E a O)) (Ka h O h2)
  |some f'=>
   cases h2:uc ev C b with
   |none=>rw[h1,h2]at hf;cases hf;exact Vx (ht X C B E c O) (Ka h O h1) (P0 (h X C B E b O))
   |some f''=>rw[h1,h2]at hf;cases hf;exact Vx (ht X C B E c O) (Ka h O h1) (Ka h O h2)
 ·exact Ka h O hf
end
noncomputable def Be(T:GT)(ev tv:Ev)(C:SC)(x:Str)(e:Expr):En->Out:=match vg C x with
 |none=>wm
 | some i => (match e with
  | .Dict ks vs _ => (match ks, vs with
   |[],[]=>Ig i
   |_,_=>wm)
  |.ListComp elt gens scope _=>fw i (n5 ev tv C elt gens scope)
  | e => (match Ma T ev C e with
   |some g=>if o9 e then fw i g else wm
   | none => if o9 e then (match L9 ev tv C e with
    |some f=>ot i f
    |none=>fj i (ev C e))else wm))
noncomputable def Ip(ev:Ev)(C:SC)(x m:Str)(args:List Expr):En->Out:=match slot C x,args with
 |some i,[a]=>if m="append" then(if ja a then pq i (ev C a)else wm)
  else if m="extend" then(if ja a then uy i (og ev C a)else wm)
  else wm
 |_,_=>wm
def fz(is:List Nat)(F:En->Out):En->Out:=λU=>F (frzs is U)
abbrev Bv:=SC->List Stmt->En->Out
noncomputable def Zg(T:GT)(ev tv:Ev)(bv:Bv)(C:SC)(st:Stmt):En->Out:=match st with
 | .Return o _ => (match o with
  |some e=>cq (ev C e)
  |none=>HQ)
 | .Assign tgs e _ => (match tgs with
  |[.Name x _]=>Be T ev tv C x e
  |_=>wm)
 | .Expr e _ => (match e with
  |.Constant (.str _) _ _=>Q2
  | .Call (.Attribute (.Name x xp) m ap) args kws cp => (match kws with
   |[]=>if ap.endLine==cp.line then(Ip ev C x m args)else wm
   |_=>wm)
  |e=>if o9 e then ny (ev C e)else wm)
 |.If c a b _=>(t7 (tv C c) (bv C a) (bv C b))
 | .For tg iter body els _ => (match els, Zp C tg with
  |[],some f=>if rm iter then gf f (Io ev C tg iter) (bv C body)else wm
  |_,_=>wm)
 | .While c body els _ => (match els with
  |[]=>Yw (tv C c) (bv C body)
  |_=>wm)
 |.Raise exc cause rp=>zm T ev C (.Raise exc cause rp)
 |_=>wm
def HN(T:GT)(ev tv:Ev)(bv:Bv)(C:SC)(st:Stmt):En->Out:=fz (FQ C (YE T st)) (Zg T ev tv bv C st)
def Og(f:Stmt->En->Out):List Stmt->En->Out
 |[]=>jy
 |[s]=>f s
 |s::r=>bj (f s) (Og f r)
def HD(T:GT)(bv:Bv):Prop:=∀X C G0 B (E:XK) ss,SOk X C T E->Ar X G0 B (ek (kx X) E) ss (bv C ss)
section
variable{T:GT}{ev tv:Ev}{bv:Bv}{X:Cx}{C:SC}{G0 B:Hp}{E:XK}{pos pos':Pos}
def QH(h:jc T ev)(O:XOk X C T E)(hg:Ma T ev C e=some g):Ut X B (ek (kx X) E) e g:=by
 unfold Ma at hg;split at hg
 ·rename_i es _
  by_cases hn:es.all ja=true
  ·rw[aG hn]at hg;cases hg;exact H8 my (qi h O hn)
  ·rw[aJ hn]at hg;cases hg
 ·rename_i x p a pos
  by_cases hb:BL T C x "list"=true
  ·rw[aG hb]at hg;obtain⟨rfl,hgl⟩:=BK O hb
   by_cases hn:ja a=true
   ·rw[aG hn]at hg;cases hg;exact Lg O.calm hgl (O.bl _ (by decide)) (eu h O a) hn
   ·rw[aJ hn]at hg;cases hg
  ·rw[aJ hb]at hg;cases hg
 ·rename_i es p op b pos
  by_cases hc:(Qb op && es.all ja)=true
  ·rw[aG hc]at hg;cases hg;rw[aF]at hc;have:op=.Mult:=by cases op<;>first|rfl|(cases hc.1)
   subst this;exact Xo (H8 my (qi h O hc.2)) Hj (eu h O b)
  ·rw[aJ hc]at hg;cases hg
 ·cases hg
def IV(h:jc T ev)(ht:Eb T tv)(O:SOk X C T E):u3 X G0 B (ek (kx X) E) (.Assign [.Name x pos'] e pos) (Be T ev tv C x e):=by
 unfold Be;cases hs:vg C x with
 |none=>exact pv
 |some i=>
  dsimp only;have gen:u3 X G0 B (ek (kx X) E) (.Assign [.Name x pos'] e pos) (match Ma T ev C e with
   |some g=>if o9 e then fw i g else wm
   | none => if o9 e then (match L9 ev tv C e with
    |some f=>ot i f
    |none=>fj i (ev C e))else wm):=by
   cases ho:Ma T ev C e with
   |none=>
    dsimp only
    by_cases hn:o9 e=true
    ·rw[aG hn];cases hf:L9 ev tv C e with
     |none=>
      have he:=h X C B E e O.toXOk;exact RB he (O.st hs he (jv hn))
     |some f=>
      have he:AU X G0 B (ek (kx X) E) e f:=WO h ht O.toXOk hf;exact NX (O.st hs he (jv hn))
    ·rw[aJ hn];exact pv
   |some g=>
    dsimp only
    by_cases hn:o9 e=true
    ·rw[aG hn];have he:Ut X B (ek (kx X) E) e g:=QH h O.toXOk ho;exact Yz he (O.st hs he (jv hn))
    ·rw[aJ hn];exact pv
  cases e with
  |Dict ks vs p=>
   cases ks with
   |nil=>
    cases vs with
    |nil=>
     dsimp only;exact FX (O.st hs Xu (jv rfl))
    |cons _ _=>exact pv
   |cons _ _=>exact pv
  |ListComp elt gens scope lp=>
   have hw:=Bw (X:=X) (B:=B) (E:=E) (pos:=lp) (elt:=elt) (gens:=gens) (scope:=scope) h ht O.toXOk;have sw:∃b,jX (.ListComp elt gens scope lp) (some (.Name x pos')) pos.line X.env=pure b:=⟨_,rfl⟩;obtain⟨b,sw⟩:=sw;cases b with
   |false=>exact Yz hw.1 (O.st hs hw.1 sw)
   |true=>
    show u3 X G0 B _ _ (fw i (n5 ev tv C elt gens scope));obtain⟨l1,l2,l3⟩:=C6 hs;have hy:X.N[i]?=some x:=by rw[O.n];exact l1
    have hl:L2.Us X.env.scope x:=by rw[O.s];exact Cn l2
    have hN:X.N.Nodup:=by rw[O.n];exact O.nd
    clear hw;cases GH (B:=B) (elt:=elt) (gens:=gens) (scope:=scope) h ht O.toXOk with
    |st e=>rw[e];exact λpins s Z H D I ⟨G,U,R,ex,q⟩=>q.elim
    |ok eg eG st hA hF hE hi hs=>
     rw[eG];subst eg;intro pins s Z H D I q;obtain⟨cl,O2,Bk⟩:=st I.ok;exact NY O2 O.calm hA Bk hF hE hi hN hy hl (O.fn x l3) hs sw pins s Z H D I q
  |_=>exact gen
def P2(hn:ja a=true):((eZ cpos (bE [a] env)).all (λx=> !x.1) && (nS cpos (kE [] env)).all (λx=>x.1.isSome)
   && decide (([a]:List Expr).length+([]:List iA).length+(if([]:List iA).isEmpty then 0 else 1)<30))=true:=by
 rw[Dz (by rw[cS,hn];rfl)];rfl
def QQ(h:jc T ev)(O:SOk X C T E){p ap cp:Pos}(hl:(ap.endLine==cp.line)=true):u3 X G0 B (ek (kx X) E) (.Expr (.Call (.Attribute (.Name x p) m ap) args [] cp) pos) (Ip ev C x m args):=by
 unfold Ip;split
 ·rename_i i a hs
  by_cases hm:m="append"
  ·subst hm;rw[aG rfl]
   by_cases hn:ja a=true
   ·rw[aG hn];exact Yx (O.var hs) (h X C B E a O.toXOk) rfl (P2 hn) hl (bc hn) rfl rfl
   ·rw[aJ hn];exact pv
  ·rw[aJ hm]
   by_cases hm:m="extend"
   ·subst hm;rw[aG rfl]
    by_cases hn:ja a=true
    ·rw[aG hn];exact Yy (O.var hs) (eu h O.toXOk a) rfl (P2 hn) hl (bc hn) rfl rfl
    ·rw[aJ hn];exact pv
   ·rw[aJ hm];exact pv
 ·exact pv
def RH(h:jc T ev)(ht:Eb T tv)(hb:HD T bv)(O:SOk X C T E){st:Stmt}:u3 X G0 B (ek (kx X) E) st (Zg T ev tv bv C st):=by
 have hu:X.A.units+5<eL:=by have:=O.units;lia
 cases st with
 |Return o p=>
  cases o with
  |none=>exact NZ
  |some e=>exact RC (h X C B E e O.toXOk)
 |Assign tgs e p=>
  show u3 X G0 B _ _ (match tgs with
   |[.Name x _]=>Be T ev tv C x e
   |_=>wm)
  split
  ·exact IV h ht O
  ·exact pv
 |Expr e p=>
  show u3 X G0 B _ _ (match e with
   |.Constant (.str _) _ _=>Q2
   | .Call (.Attribute (.Name x xp) m ap) args kws cp => (match kws with
    |[]=>if ap.endLine==cp.line then(Ip ev C x m args)else wm
    |_=>wm)
   |e=>if o9 e then ny (ev C e)else wm)
  split
  ·exact RF
  ·rename_i x _ m ap args kws cp;cases kws with
   |nil=>
    dsimp only
    by_cases hl:(ap.endLine==cp.line)=true
    ·rw[aG hl];exact QQ h O hl
    ·rw[aJ hl];exact pv
   |cons _ _=>exact pv
  ·by_cases hn:o9 e=true
   ·rw[aG hn];exact MA (h X C B E e O.toXOk) (jv hn)
   ·rw[aJ hn];exact pv
 |If c a b p=>
  show u3 X G0 B _ _ (t7 (tv C c) (bv C a) (bv C b));exact XU (ht X C B E c O.toXOk) (hb X C G0 B E a O) (hb X C G0 B E b O)
 |For tg iter body els p=>
  show u3 X G0 B _ _ (match els,Zp C tg with
   |[],some f=>if rm iter then gf f (Io ev C tg iter) (bv C body)else wm
   |_,_=>wm)
  cases els with
  |cons _ _=>exact pv
  |nil=>
   cases hf:Zp C tg with
   |none=>exact pv
   |some f=>
    dsimp only
    by_cases hn:rm iter=true
    ·rw[aG hn];obtain⟨gl,G⟩:=FD (B:=B) O hf;exact RE O.pass O.calm (QW h O.toXOk iter) G (hb X C G0 B E body O) (wa hn)
    ·rw[aJ hn];exact pv
 |While c body els p=>
  cases els with
  |cons _ _=>exact pv
  |nil=>exact FW O.pass (ht X C B E c O.toXOk) (hb X C G0 B E body O)
 |Raise exc cause p=>exact Ys h O.toXOk
 |_=>exact pv
def Zh(h:jc T ev)(ht:Eb T tv)(hb:HD T bv)(O:SOk X C T E){st:Stmt}:u3 X G0 B (ek (kx X) E) st (HN T ev tv bv C st):=RD _ (RH h ht hb O)
theorem Y1{E:EK}(h:∀st,u3 X G0 B E st (f st)):∀{ss:List Stmt},Ar X G0 B E ss (Og f ss)
 |[]=>NM
 |[s]=>NL (h s)
 |s::t::r=>FI (h s) (Y1 h (ss:=t::r))
end
def Pz:Nat:=40
def gB(T:GT):Nat->Bv
 |0=>λ_ _=>wm
 |n+1=>λC ss=>Og (HN T (gP T Pz false) (gP T Pz true) (gB T n) C) ss
def SV:Ar X G0 B E ss wm:=λpins s Z H D I ⟨G,U,R,x,q⟩=>q.elim
theorem V8(T:GT):∀n,HD T (gB T n)
 |0=>λX C G0 B E ss O=>SV
 |n+1=>λX C G0 B E ss O=>Y1 λst=>Zh (Ce T Pz).1 (Ce T Pz).2 (V8 T n) O
def Hx(p:lC):Option Str:=if p.posonlyargs.isEmpty && p.vararg.isNone && p.kwonlyargs.isEmpty && p.kw_defaults.isEmpty && p.kwarg.isNone && p.defaults.isEmpty then(match p.args with
 |[a]=>some a.arg
 |_=>none)else none
def Tb(h:Hx p=some x):∃a:PySem.Arg,a.arg=x/\p=⟨[],[a],none,[],[],none,[]⟩:=by
 obtain⟨a1,a2,a3,a4,a5,a6,a7⟩:=p;unfold Hx at h;split at h
 ·rename_i c;simp only[aF,List.isEmpty_iff,Option.isNone_iff_eq_none]at c;obtain⟨⟨⟨⟨⟨rfl,rfl⟩,rfl⟩,rfl⟩,rfl⟩,rfl⟩:=c;split at h
  ·rename_i a e;cases h;exact⟨a,rfl,by cases e;rfl⟩
  ·cases h
 ·cases h
def U5(name qual:Str)(a:PySem.Arg)(body:Expr)(scope:eI)(cl:List (Str×Addr))(pm cdv ct u:aC):bindArgs (PySem.W.kla_fn name qual ⟨[],[a],none,[],[],none,[]⟩ body scope cl pm cdv ct) ⟨[u],[]⟩=pure [(a.arg,u)]:=by
 unfold bindArgs;have e:seqItems? cE=pure none:=rfl;simp[e,List.lookup]
def GB(x:Str)(scope:eI):SC:=⟨x::cx scope.names,scope,[],false,true⟩
def Cw(x:Str)(scope:eI):Bool:=decide (scope.kind=.function) && decide (scope.isCoroutine=false) && decide (scope.isGenerator=false) && (scope.names.all λy=>decide (y.2≠.cell)) && decide (scope.names.lookup x=some .local) && decide ((x::cx scope.names).Nodup) && (cx scope.names).all λy=>decide (scope.names.lookup y=some .free)
def JD(T:GT)(n:Nat)(x:Str)(scope:eI)(body:Expr)(fs:List (Str×D))(d:D):Res:=gP T n false (GB x scope) body (.pu d::fs.map λp=>.pu p.2)
def CU(T:GT)(n:Nat)(e:Expr)(fs:List (Str×D))(ds:List D):Res:=match e with
 | .Lambda p body scope _ => (match Hx p with
  | some x => (match ds with
   |[d]=>if Cw x scope && decide (fs.map (·.1)=cx scope.names)then JD T n x scope body fs d else .st
   |_=>.st)
  |none=>.st)
 |_=>.st
def CT{fs:List (Str×D)}(h:CU T n e fs ds=.ok d):∃p body scope pos x d0,e=.Lambda p body scope pos/\Hx p=some x/\ds=[d0]/\Cw x scope=true/\fs.map (·.1)=cx scope.names/\JD T n x scope body fs d0=.ok d:=by
 unfold CU at h;split at h
 ·rename_i p body scope pos;split at h
  ·rename_i x hx;split at h
   ·rename_i d0;split at h
    ·rename_i c;rw[aF,decide_eq_true_eq]at c;exact⟨p,body,scope,pos,x,d0,rfl,hx,rfl,c.1,c.2,h⟩
    ·cases h
   ·cases h
  ·cases h
 ·cases h
structure TabIs(P:bQ)(w:bZ)(K:aU)(mg:Str->Option aC)(base:Heap)(T:GT)(k:Nat):Prop where
 fns:∀x s,T.fns x=some s->∃f fd ps,mg x=some (.ref f)/\cX K (.ref f)=true/\Binds K fd ps []/\FnOk P w K mg base (Ew P w) k f fd ps (Ou ⟨K,ym mg⟩ s.ms s.f)
 gstr:∀x y,T.gstr x=some y->∃t,mg x=some (.str y t)
 bl:∀x∈vm,mg x=none
 exc:∀x,T.xs.exc x=true->∃C bm newId,mg x=some (.ref C)/\gA K C bm newId=true/\ExBase bm newId
 sub:∀c y,T.xs.sub c y=true->∃Cy,mg y=some (.ref Cy)/\eO K (.ref (ym mg c)) (.ref Cy)=some true
 ve:∀c,T.xs.ve c=true->PySem.W.kitCls K (.ref (ym mg c)) (.type "ValueError")=some true
 nsub:∀c y,T.xs.nsub c y=true->∃Cy,mg y=some (.ref Cy)/\eO K (.ref (ym mg c)) (.ref Cy)=some false
 late:∀x,T.xs.late x=true->∃C,C∈Cz/\mg x=some (.ref C)
 nlate:∀c,T.xs.nlate c=true->ym mg c∉Cz
 lams:∀e fs ds d,T.lam e fs ds=.ok d->Mr P w K mg base k e fs ds d
 own:∀x s,T.own x=true->T.fns x=some s->∃f fd ps,mg x=some (.ref f)/\cX K (.ref f)=true/\Binds K fd ps []/\FnOk P w K mg base (Ew P w) k f fd ps (SY ⟨K,ym mg⟩ s.ms s.f)
def Room.u65{A:cG}(r:Room k A):A.units+65<eL:=by have:=r.un;lia
def TabIs.xok{X:Cx}{C:SC}(t:TabIs X.prog X.w X.K X.mg X.base T k)(hr:Room k X.A)(n:X.N=C.N)(s:X.env.scope=C.sc)(nd:C.N.Nodup)(calm:X.calm=true)(acc:Acc X E)(top:C.blk=false->X.ex=[]/\X.stack=X.env::X.outer/\X.env.frame=some X.env.locals)(lamc:C.lam=true->Ur X):XOk X C T E:=
 ⟨n,s,nd,calm,Room.u65 hr,λx s h=>by
  obtain⟨f,fd,ps,h1,h2,h3,h4⟩:=t.fns x s h;exact⟨k,f,fd,ps,hr,h1,h2,h3,h4⟩,t.gstr,t.bl,t.exc,t.sub,t.ve,t.nsub,t.late,t.nlate,acc,top,lamc,λe fs ds d h=>⟨k,hr,t.lams e fs ds d h⟩,λx s h h'=>by
  obtain⟨f,fd,ps,h1,h2,h3,h4⟩:=t.own x s h h';exact⟨k,f,fd,ps,hr,h1,h2,h3,h4⟩⟩
def Pw(P:bQ)(w:bZ)(K:aU)(mg:Str->Option aC)(base:Heap)(x:Str)(qual:Str)(scope:eI)(f:Addr)(cd:aC)(cl:List (Str×Addr))(A:cG)(outer:List Env)(s:aI)(H:Hp):Cx where
 prog:=P
 w:=w
 K:=K
 mg:=mg
 base:=base
 A:=A.deeper (oO qual scope s.heap.objs.size f cd cl)
 N:=x::cx scope.names
 s₀:=s
 H₀:=H
 env:=oO qual scope s.heap.objs.size f cd cl
 outer:=outer
 stack:=oO qual scope s.heap.objs.size f cd cl::outer
 ex:=[]
 calm:=true
 fn:=λy=>decide (y=x)
 pn:=[]
 xe:=λ_ _=>False
theorem DenF.len{K:KA}{G:Hp}:∀{fs:List (Str×D)}{vs:List (Str×V)},DenF K G fs vs->fs.length=vs.length/\fs.map (·.1)=vs.map (·.1)
 |[],_,h=>by rw[show _=[]from h];exact⟨rfl,rfl⟩
 |(n,d)::fs,_,⟨v,r,h1,_,h3⟩=>by
  subst h1;obtain⟨q1,q2⟩:=DenF.len h3;exact⟨by rw[aE,aE,q1],by rw[aV,aV,q2]⟩
theorem DenF.get{K:KA}{G:Hp}:∀{fs:List (Str×D)}{vs:List (Str×V)}{i:Nat}{p:Str×D},DenF K G fs vs->fs[i]?=some p->∃v,vs[i]?=some (p.1,v)/\Den K G p.2 v
 |[],_,_,_,_,e=>by simp at e
 |(n,d)::fs,_,0,p,⟨v,r,h1,h2,_⟩,e=>by
  subst h1;simp at e;subst e;exact⟨v,rfl,h2⟩
 |(n,d)::fs,_,i+1,p,⟨v,r,h1,_,h3⟩,e=>by
  subst h1;obtain⟨v',q1,q2⟩:=DenF.get (i:=i) h3 (by simpa using e);exact⟨v',by simpa using q1,q2⟩
theorem Fz:∀{l:List (α×β)}{y:α}{u v:β},(l.map (·.1)).Nodup->(y,u)∈l->(y,v)∈l->u=v
 |[],_,_,_,_,h,_=>by simp at h
 |(a,b)::r,y,u,v,nd,h1,h2=>by
  rw[aV,List.nodup_cons]at nd;rcases List.mem_cons.mp h1 with e1|h1
  ·cases e1;rcases List.mem_cons.mp h2 with e2|h2
   ·cases e2;rfl
   ·exact absurd (List.mem_map.mpr ⟨_,h2,rfl⟩) nd.1
  ·rcases List.mem_cons.mp h2 with e2|h2
   ·cases e2;exact absurd (List.mem_map.mpr ⟨_,h1,rfl⟩) nd.1
   ·exact Fz nd.2 h1 h2
section
variable{P:bQ}{w:bZ}{K:aU}{mg:Str->Option aC}{base:Heap}{T:GT}{k n:Nat}
def CQ(t:TabIs P w K mg base T k){e:Expr}{fs:List (Str×D)}{ds:List D}{d:D}(h:CU T n e fs ds=.ok d):Mr P w K mg base (k+1) e fs ds d:=by
 intro A outer s H G a us vs Q hr e0 gb sg dn dl rv q;obtain⟨params,body,scope,pos,x,d0,rfl,hx,rfl,hok,hfs,hg⟩:=CT h;obtain⟨ag,rfl,rfl⟩:=Tb hx;unfold Cw at hok;simp only[aF,decide_eq_true_eq]at hok;obtain⟨⟨⟨⟨⟨⟨o1,o2⟩,o3⟩,o4⟩,o5⟩,o6⟩,o7⟩:=hok;have hcell:∀y∈scope.names,y.2≠eA:=λy hy=>of_decide_eq_true (List.all_eq_true.mp o4 y hy);obtain⟨a',cvs,ea,la,df⟩:=dn;cases ea;obtain⟨qual,pm,c',ctv,cl,oc,cvs',tk,h1,h2,h3,h4,inj,all,frm,cells,dm⟩:=la;obtain⟨v0,vr,rfl,dn0,rfl⟩:=dl;obtain⟨u0,ur,rfl,r0,rr⟩:∃u0 ur,us=u0::ur/\RelV v0 u0/\Vals [] ur:=by
  cases rv with
  |cons r t=>exact⟨_,_,rfl,r,t⟩
 cases rr;obtain⟨ho,_⟩:=e0.hok a _ (sg _ _ h1);obtain⟨hoc,_⟩:=e0.hok c' _ (sg _ _ h2);have lim:s.heap.NoLimit:=e0.mod.nolimit.keeps λb o e=>(e0.bs b o e).1;have jM:H s.heap.objs.size=none:=e0.hok.fresh (aH _);refine PySem.W.kla_callFunE hr.depth ho rfl o2 o3 rfl ⟨c',oc,cvs',tk,rfl,hoc,h3,h4⟩ ?_;rw[U5];refine aB (wpAny_newFunctionEnv hcell (λy hy=>?_) (λh₁ hns hsb=>⟨lim.fresh _ hsb,?_⟩) o1)
 ·obtain rfl:y=(ag.arg,u0):=by simpa using hy
  exact o5
 show iO _ _ (.expr body (oO qual scope s.heap.objs.size a (.ref c') cl)) _ _;have hk₁:∀b o,s.heap.get? b=some o->h₁.get? b=some o:=λb o e=>hsb.extBut b o (bJ (aT e)) (aD _ e);have clc:∀y c,cl.lookup y=some c->∃o v u,H c=some (.frz o (.own 0))/\s.heap.get? c=some o/\o.data=.cell (some u)/\(y,v)∈cvs/\RelV v u:=λy c hc=>by
  obtain⟨o,v,u,z1,z2,z3,z4⟩:=cells y c hc;obtain⟨z5,_⟩:=e0.hok c _ (sg _ _ z1);exact⟨o,v,u,sg _ _ z1,z5,z2,z3,z4⟩
 have noA:∀b:Addr,b∉(Pw P w K mg base ag.arg qual scope a (.ref c') cl A outer s H).ex:=λb z=>absurd (show b∈([]:List Addr)from z) (by simp);have nfree:∀y c,cl.lookup y=some c->y≠ag.arg:=λy c hc z=>by
  have:=i3.mp (frm y c hc);rw[z]at this;exact(List.nodup_cons.mp o6).1 this
 have I:Inv (Pw P w K mg base ag.arg qual scope a (.ref c') cl A outer s H) [] (some v0::cvs.map λp=>some p.2) H {s with heap:=h₁,toks:=s.toks+1}:=by
  refine⟨⟨e0.mod,o1,rfl,rfl,aH _,inj,λy hy=>?_,λy c hy hc=>?_,λ_=>hr.hd,Around.frames_deeper e0.frames,.inr ⟨rfl,rfl⟩,λb z=>absurd z (noA b),e0.bs,e0.bsz,λb _ _=>noA b,λb z=>absurd z (noA b),e0.funs,e0.frf⟩,
   rfl,e0.bare,Un.kept hk₁,⟨_,hns,λi y v g1 g2 g3=>?_⟩,λy c hc=>?_,jM,λy c hc=>?_,λp hp=>absurd (show p∈([]:List (Addr×Obj))from hp) (by simp),e0.hok.kept hk₁,?_⟩
  ·have hy:scope.names.lookup y=some .cell\/scope.names.lookup y=some .free:=hy;rcases hy with hy|hy
   ·exact absurd rfl (hcell _ (dW hy))
   ·exact all y (dW hy)
  ·exact absurd (of_decide_eq_true hy) (nfree y c hc)
  ·cases i with
   |zero=>
    simp at g2;subst g2;have:y=ag.arg:=by
     have z:(ag.arg::cx scope.names)[0]?=some y:=g1;simp at z;exact z.symm
    subst this;exact⟨u0,r0,.inl ⟨o5,by simp⟩⟩
   |succ i=>
    have z1:(cx scope.names)[i]?=some y:=by
     have z:(ag.arg::cx scope.names)[i+1]?=some y:=g1;simpa using z
    have hyf:(y,cR)∈scope.names:=i3.mpr (bF z1);obtain⟨c,hc⟩:=all y hyf;obtain⟨o,v',u,y1,y2,y3,y4,y5⟩:=clc y c hc;have z2:(cvs.map λp=>some p.2)[i]?=some (some v):=by simpa using g2
    rw[bM]at z2;cases z3:cvs[i]? with
    |none=>rw[z3]at z2;cases z2
    |some p=>
     rw[z3]at z2;simp at z2;have z4:p.1=y:=by
      have:(cvs.map (·.1))[i]?=some y:=by rw[dm];exact z1
      rw[bM,z3]at this;simpa using this
     have z5:(y,v)∈cvs:=by
      have:=bF z3;obtain⟨p1,p2⟩:=p;simp at z2 z4;subst z2;subst z4;exact this
     have z6:v'=v:=Fz (by rw[dm];exact(List.nodup_cons.mp o6).2) y4 z5;subst z6;refine⟨u,y5,?_⟩;have kf:scope.names.lookup y=some .free:=of_decide_eq_true (List.all_eq_true.mp o7 y (i3.mp hyf));rcases g3 with g3|g3|g3
     ·have g3:scope.names.lookup y=some .local:=g3;rw[kf]at g3;cases g3
     ·exact absurd rfl (hcell _ (dW g3))
     ·exact .inr ⟨.inr g3,c,hc,o,hk₁ _ _ y2,y3⟩
  ·obtain⟨o,v',u,y1,y2,y3,y4,y5⟩:=clc y c hc;exact⟨some u,o,hk₁ _ _ y2,y3⟩
  ·obtain⟨o,v',u,y1,y2,y3,y4,y5⟩:=clc y c hc;exact .inr ⟨decide_eq_false (nfree y c hc),o,y1⟩
  ·show(some v0::cvs.map λp=>some p.2).length=(ag.arg::cx scope.names).length;rw[aE,aE,aO,<-dm,aO]
 have O:XOk (Pw P w K mg base ag.arg qual scope a (.ref c') cl A outer s H) (GB ag.arg scope) T E0:=TabIs.xok (X:=Pw P w K mg base ag.arg qual scope a (.ref c') cl A outer s H) t (hr.deeper _) rfl rfl o6 rfl wq (λz=>by cases z) λz=>by cases z
 have hl:fs.length=cvs.length:=df.len.1;have R:EnvR ⟨K,ym mg⟩ H G H (some v0::cvs.map λp=>some p.2) (.pu d0::fs.map λp=>.pu p.2):=by
  have pu:∀(i:Nat) sl,(Sl.pu d0::fs.map λp=>Sl.pu p.2)[i]?=some sl->∃dd v,sl=.pu dd/\(some v0::cvs.map λp=>some p.2)[i]?=some (some v)/\Den ⟨K,ym mg⟩ G dd v:=λi sl hi=>by
   cases i with
   |zero=>simp at hi;subst hi;exact⟨d0,v0,rfl,rfl,dn0⟩
   |succ i=>
    have hi':(fs.map λp=>Sl.pu p.2)[i]?=some sl:=by simpa using hi
    rw[bM]at hi';cases z3:fs[i]? with
    |none=>rw[z3]at hi';cases hi'
    |some p=>
     rw[z3]at hi';simp at hi';subst hi';obtain⟨v,y1,y2⟩:=df.get z3;refine⟨p.2,v,rfl,?_,y2⟩;show(cvs.map λp=>some p.2)[i]?=some (some v);rw[bM,y1];rfl
  refine⟨Same.refl H,sg,?_,λi sl hi=>?_,λi sl b hi ho=>?_,λi j sl sl' b hi hj ho=>?_,gb⟩
  ·rw[aE,aE,aO,aO,hl]
  ·obtain⟨dd,v,rfl,y1,y2⟩:=pu i sl hi;exact⟨some v,y1,v,rfl,y2⟩
  ·obtain⟨dd,v,rfl,_⟩:=pu i sl hi;cases ho
  ·obtain⟨dd,v,rfl,_⟩:=pu i sl hi;cases ho
 refine PySem.W.kla_codeExpr (bU ((Ce T n).1 _ _ H E0 body O [] _ _ H Q I ⟨G,_,R,?_⟩) (λv s' hv=>?_) λ_ _ z=>z.elim)
 ·unfold JD at hg;rw[hg];exact q
 ·obtain⟨v',H',J,rv',q'⟩:=hv;exact⟨v',H',J.os,J.bare,J.base,J.hok,rv',q'⟩
end
structure DefR where
 x:Str
 st:Stmt
 ms:List Bool
 lm:Bool
def A1(st:Stmt):List Str:=(iz st).args.map (·.arg)
noncomputable def C5(ps:List Str):List (Str×fP)->List Str
 |[]=>[]
 |(n,k)::r=>if(k=.local\/k=.cell)/\n∉ps then n::C5 ps r else C5 ps r
def GA(st:Stmt):List Str:=A1 st++C5 (A1 st) (bu st).names
def OO(st:Stmt)(lm:Bool):SC:=⟨GA st,bu st,O3 20 (ff st),lm,false⟩
noncomputable def Dd(d:DefR):Bool:=
 decide ((bu d.st).kind=.function) && decide ((bu d.st).isCoroutine=false) && decide ((bu d.st).isGenerator=false) && decide ((GA d.st).Nodup) && decide ((GA d.st).take (A1 d.st).length=A1 d.st) &&
 ((A1 d.st).all λx=>decide ((bu d.st).names.lookup x=some .local)||decide ((bu d.st).names.lookup x=some .cell)) && ((bu d.st).names.all λy=>decide (y.2≠.free)) && decide (d.ms.length=(A1 d.st).length)
def Aj{d:DefR}(h:Dd d=true):FnScope (GA d.st) (A1 d.st) (bu d.st)/\d.ms.length=(A1 d.st).length:=by
 unfold Dd at h;simp only[aF,decide_eq_true_eq]at h;obtain⟨⟨⟨⟨⟨⟨⟨h1,h2⟩,h3⟩,h4⟩,h5⟩,h6⟩,h7⟩,h8⟩:=h;refine⟨⟨h1,h2,h3,h4,h5,λx hx=>?_,λy hy=>?_⟩,h8⟩
 ·have q:=List.all_eq_true.mp h6 x hx;rw[dG,decide_eq_true_eq,decide_eq_true_eq]at q;exact q
 ·exact of_decide_eq_true (List.all_eq_true.mp h7 y hy)
def Gg(st:Stmt)(x:Str):Prop:=∀(kV doc pm:aC)(an:Option Addr)(cdv ct:aC)(us:List aC),us.length=(A1 st).length->bindArgs (eD x x (iz st) (ff st) (bu st) .none kV doc pm an cdv ct) ⟨us,[]⟩=pure ((A1 st).zip us)
structure DefIn(K:aU)(mg:Str->Option aC)(d:DefR):Prop where
 ok:Dd d=true
 bd:Gg d.st d.x
 at_:∃f fd,mg d.x=some (.ref f)/\Fun K d.x d.x d.st f fd/\(d.lm=true->∃c P,fd.code=.ref c/\(c,P,d.x++".<locals>."++"<lambda>")∈Mc/\jF K c P=true)
def IE{K:aU}{h:Heap}{mg:Str->Option aC}{d:DefR}(X:K.In h)(G:h.Ns cO mg)(ok:Dd d=true)(bd:Gg d.st d.x){f:Addr}{oc kV doc pm cdv ct:aC}{od an:Option Addr}{osl:Array (Option aC)}
  (a:gX K cO d.x=some (some (.ref f)))(l:K.lookup f=some ⟨oc,od,.func (eD d.x d.x (iz d.st) (ff d.st) (bu d.st) .none kV doc pm an cdv ct),osl⟩)(c:gG K cdv d.x=true)(k:cX K (.ref f)=true)(m:d.lm=true->∃c P,cdv=.ref c/\(c,P,d.x++".<locals>."++"<lambda>")∈Mc/\jF K c P=true):DefIn K mg d:=
 ⟨ok,bd,f,_,cT X G a,V7 l c k,m⟩
def look(ds:List DefR)(x:Str):Option DefR:=match ds with
 |[]=>none
 |d::r=>if d.x=x then some d else look r x
theorem K0{d:DefR}:∀{ds:List DefR},look ds x=some d->d∈ds/\d.x=x
 |[],h=>by cases h
 |e::r,h=>by
  unfold look at h
  by_cases z:e.x=x
  ·rw[aG z]at h;cases h;exact⟨aN,z⟩
  ·rw[aJ z]at h;obtain⟨q1,q2⟩:=K0 h;exact⟨aK _ q1,q2⟩
def Pj:Nat:=20
def af(T:GT)(d:DefR):List D->Res:=WN d.ms (GA d.st).length (gB T Pj (OO d.st d.lm) (ff d.st))
noncomputable def p6(ds:List DefR)(gs:Str->Option Str)(xs:XT):Nat->GT
 |0=>⟨λ_=>none,gs,xs,λ_ _ _=>.st,λ_=>false⟩
 |n+1=>⟨λx=>match look ds x with
  |some d=>some ⟨d.ms,af (p6 ds gs xs n) d⟩
  |none=>none,gs,xs,CU (p6 ds gs xs n) Pj,λ_=>false⟩
structure XsIn(K:aU)(mg:Str->Option aC)(xs:XT):Prop where
 exc:∀x,xs.exc x=true->∃C bm newId,mg x=some (.ref C)/\gA K C bm newId=true/\ExBase bm newId
 sub:∀c y,xs.sub c y=true->∃Cy,mg y=some (.ref Cy)/\eO K (.ref (ym mg c)) (.ref Cy)=some true
 ve:∀c,xs.ve c=true->PySem.W.kitCls K (.ref (ym mg c)) (.type "ValueError")=some true
 nsub:∀c y,xs.nsub c y=true->∃Cy,mg y=some (.ref Cy)/\eO K (.ref (ym mg c)) (.ref Cy)=some false
 late:∀x,xs.late x=true->∃C,C∈Cz/\mg x=some (.ref C)
 nlate:∀c,xs.nlate c=true->ym mg c∉Cz
section
variable{P:bQ}{w:bZ}{K:aU}{mg:Str->Option aC}{base:Heap}{ds:List DefR}{gs:Str->Option Str}{xs:XT}
def NF{d:DefR}(n:Nat)(h:look ds x=some d):(p6 ds gs xs (n+1)).fns x=some ⟨d.ms,af (p6 ds gs xs n) d⟩:=by
 show(match look ds x with
  |some d=>some (FS.mk d.ms (af (p6 ds gs xs n) d))
  |none=>none)=_
 rw[h]
def Bm(mg:Str->Option aC)(base:Heap):Prop:=∃bm o,mg "__builtins__"=some (.ref bm)/\bm≠jU/\bm≠cO/\base.get? bm=some o/\o.cls=.type "module"/\o.dict=some jU/\o.data=.plain
theorem p9{lo:Nat}:∀(names:List (Str×fP))(n:Nat)(acc:List (Str×Addr)),lo<=n->(∀p∈acc,lo<=p.2)->∀p∈kA n names acc,lo<=p.2
 |[],_,acc,_,h,p,hp=>h p hp
 |(nm,kd)::r,n,acc,hl,h,p,hp=>by
  unfold kA at hp;split at hp
  ·refine p9 r (n+1) _ (Nat.le_succ_of_le hl) (λq hq=>?_) p hp;rcases List.mem_cons.mp hq with rfl|hq
   ·exact hl
   ·exact h q hq
  ·exact p9 r n _ hl h p hp
def Qh{d:DefR}{fd:iC}(kb:K.In base)(bm:Bm mg base)(hc:fd.code=cdv)(hl:d.lm=true->∃c P,fd.code=.ref c/\(c,P,d.x++".<locals>."++"<lambda>")∈Mc/\jF K c P=true):
  (OO d.st d.lm).lam=true->Ur (Au (Ew P w) P w K mg base N d.x (bu d.st) f cdv A outer s H E):=λz=>by
 obtain⟨c,Pl,h1,h2,h3⟩:=hl z;refine⟨c,Pl,h2,hc.symm.trans h1,PySem.W.codeHd_of_K kb h3,bm,λy c hy=>?_,λy hy=>decide_eq_false λz=>z hy⟩;exact p9 _ _ _ (fZ _) (λp hp=>by simp at hp) _ (dW hy)
theorem Zn(kb:K.In base)(bm:Bm mg base)(hd:∀d∈ds,DefIn K mg d)(hs:∀x y,gs x=some y->∃t,mg x=some (.str y t))(hb:∀x∈vm,mg x=none)(hX:XsIn K mg xs):∀n,TabIs P w K mg base (p6 ds gs xs n) n
 |0=>⟨λx s h=>(by cases h),hs,hb,hX.exc,hX.sub,hX.ve,hX.nsub,hX.late,hX.nlate,λe fs ds d h=>(by cases h),λx s h=>(by cases h)⟩
 |n+1=>by
  have ih:=Zn kb bm hd hs hb hX n;refine⟨λx s h=>?_,hs,hb,hX.exc,hX.sub,hX.ve,hX.nsub,hX.late,hX.nlate,λe fs ds' d h=>CQ ih h,λx s h h'=>(by cases h)⟩;unfold p6 at h;dsimp only at h;cases e:look ds x with
  |none=>rw[e]at h;cases h
  |some d=>
   rw[e]at h;cases h;obtain⟨m1,m2⟩:=K0 e;subst m2;obtain⟨ok,bd,f,fd,q1,F,hl⟩:=hd d m1;obtain⟨S,hm⟩:=Aj ok;refine⟨f,fd,A1 d.st,q1,F.kp,F.binds bd,V6 F S hm λcdv A outer s H G0 E hc hr=>?_⟩;exact V8 _ _ _ (OO d.st d.lm) G0 H E _ ⟨TabIs.xok (X:=Au (Ew P w) P w K mg base (GA d.st) d.x (bu d.st) f cdv A outer s H E) ih hr rfl rfl S.nd rfl Jc (λ_=>⟨rfl,rfl,rfl⟩) (Qh kb bm hc hl),λy hy=>decide_eq_true hy,PassesOwn.leaving,rfl,rfl,rfl⟩
def Q4(K:aU):Sp:=λvs H Q _=>GOk H/\∃(a:Addr) (ns:List Int),vs=[.ref a]/\SqL K H a (ns.map V.int)/\ns.length<=63/\∀H',Q (.bl true) H'
theorem Fe{K:KA}{G:Hp}:∀ns:List Int,DenL K G (ns.map D.int) (ns.map V.int)
 |[]=>rfl
 |n::ns=>⟨.int n,ns.map V.int,rfl,rfl,Fe ns⟩
def JA{d:DefR}{f:Addr}{oc kV doc pm cdv ct:aC}{od an:Option Addr}{osl:Array (Option aC)}(ok:Dd d=true)(nl:d.lm=false)
  (a:gX K cO d.x=some (some (.ref f)))(l:K.lookup f=some ⟨oc,od,.func (eD d.x d.x (iz d.st) (ff d.st) (bu d.st) .none kV doc pm an cdv ct),osl⟩)(c:gG K cdv d.x=true)(k:cX K (.ref f)=true)
  (kb:K.In base) (bm:Bm mg base) (hd:∀d∈ds,DefIn K mg d) (hs:∀x y,gs x=some y->∃t,mg x=some (.str y t)) (hb:∀x∈vm,mg x=none) (hX:XsIn K mg xs) {n:Nat} {s:FS} (hl:(p6 ds gs xs n).fns "law"=some s) (hm:s.ms=[false])
  (law:∀ns:List Int,ns.length<=63->s.f [.lst (ns.map D.int)]=.ok (.bl true)) (hx:look ds "law"=some d:=by rfl) (hp:A1 d.st=[("_law_script":Str)]:=by rfl):
  FnOk P w K mg base OB n f (eD d.x d.x (iz d.st) (ff d.st) (bu d.st) .none kV doc pm an cdv ct) ["_law_script"] (Q4 K):=by
 cases n with
 |zero=>cases hl
 |succ n=>
  unfold p6 at hl;dsimp only at hl;rw[hx]at hl;cases hl;obtain⟨S,hm'⟩:=Aj ok;have F:=V6 (P:=P) (w:=w) (base:=base) (mg:=mg) (k:=n) (ms:=d.ms) (Fb:=gB (p6 ds gs xs n) Pj (OO d.st d.lm) (ff d.st)) (V7 l c k) S hm' λcdv' A outer s H G0 E hc hr=>by
   exact V8 _ _ _ (OO d.st d.lm) G0 H E _ ⟨TabIs.xok (X:=Au (Ew P w) P w K mg base (GA d.st) d.x (bu d.st) f cdv' A outer s H E) (Zn kb bm hd hs hb hX n) hr rfl rfl S.nd rfl Jc (λ_=>⟨rfl,rfl,rfl⟩) (Qh kb bm hc λz=>by rw[nl]at z;cases z),λy hy=>decide_eq_true hy,PassesOwn.leaving,rfl,rfl,rfl⟩
  rw[hp]at F;refine F.calm.imp λvs H Q E ⟨gb,a,ns,e,sq,hn,q⟩=>?_;subst e;have hm:d.ms=[false]:=hm;have e:af (p6 ds gs xs n) d [.lst (ns.map D.int)]=.ok (.bl true):=law ns hn;show Ou _ d.ms (af (p6 ds gs xs n) d) _ H Q E0;refine⟨by rw[hm];rfl,gb,H,[.lst (ns.map D.int)],Same.refl H,by rw[hm];exact⟨_,[],_,[],rfl,rfl,⟨a,_,rfl,sq,Fe ns⟩,rfl,rfl⟩,?_⟩;rw[e];intro v G' H' _ dn;rw[show v=.bl true from dn];exact q H'
end
def Ao(b:Addr):Option HO:=(Mc.find? λp=>p.2.1==b).map λp=>.tbl p.2.2
def D3(h:Ao b=some o):∃p∈Mc,p.2.1=b/\o=.tbl p.2.2:=by
 unfold Ao at h;cases e:Mc.find? λp=>p.2.1==b with
 |none=>rw[e]at h;cases h
 |some p=>
  rw[e]at h;cases h;exact⟨p,jH e,by simpa using oV e,rfl⟩
theorem P3{f:α->Addr}:∀{l:List α}{p:α},(l.map f).Nodup->p∈l->l.find? (λq=>f q==f p)=some p
 |[],_,_,h=>by simp at h
 |a::r,p,nd,h=>by
  rw[aV,List.nodup_cons]at nd;rw[fI]
  by_cases e:f a=f p
  ·have hb:(f a==f p)=true:=by simpa using e
   rw[hb];rcases List.mem_cons.mp h with rfl|h
   ·rfl
   ·exact absurd (e▸List.mem_map_of_mem h) nd.1
  ·have hb:(f a==f p)=false:=by simpa using e
   rw[hb];rcases List.mem_cons.mp h with rfl|h
   ·exact absurd rfl e
   ·exact P3 nd.2 h
def Ub(nd:(Mc.map (·.2.1)).Nodup){p:Addr×Addr×Str}(hp:p∈Mc):Ao p.2.1=some (.tbl p.2.2):=by
 unfold Ao;rw[P3 (f:=λp:Addr×Addr×Str=>p.2.1) nd hp];rfl
def Uu(h:Heap):Prop:=∀p∈Mc,PySem.W.CodeHd h p.1 p.2.1/\h.get? p.2.1=some (nA #[])
def S5{P:bQ}{w:bZ}{K:aU}{mg mb:Str->Option aC}{k:Nat}{fa a:Addr}{fd:iC}{x:Str}{s₁:aI}{vs:List aC}{ns:List Int}
  (KX:K.In s₁.heap)(nK:PySem.W.noTabs K=true)(nd:(Mc.map (·.2.1)).Nodup)(tb:Uu s₁.heap)(bm:Bm mg s₁.heap)(hns:s₁.heap.Ns cO mg)(hb:s₁.heap.Ns jU mb)(hbb:∀x:Str,x≠"__name__"->mb x=gO x)(hlim:s₁.heap.NoLimit)(hg:s₁.gens=#[])
  (ha:s₁.heap.get? a=some {cls:=.type "list",data:=.seq vs.toArray}) (hi:fO vs ns) (hl:ns.length<=aQ) (hl2:ns.length<=63) (hr:Room k pD)
  (F:∀base:Heap,K.In base->base.Ns cO mg->Bm mg base->FnOk P w K mg base OB k fa fd [x] (Q4 K)) (hbind:∀(s:aI)(u:aC),BindsTo s fd ⟨[u],[]⟩ [(x,u)]):
  iO (bH P w) pD (.call (.ref fa) ⟨[.ref a],[]⟩) (λr s'=>r=.ok (.ret (.bool true))/\OldK s₁.heap s'.heap/\s'.os=s₁.os/\mC s'.gens) s₁:=by
 have rv:=zr hi;have lenV:=hi.length;have tne:∀{b:Addr}{u:HO},Ao b=some u->s₁.heap.get? b=some (nA #[]):=λ{b u} e=>by
  obtain⟨p,hp,rfl,_⟩:=D3 e;exact(tb p hp).2
 have core:∀S:Option HO,(S=none\/S=some (.frz {cls:=.type "list",data:=.seq vs.toArray} (.lst (ns.map V.int))))->(S≠none->K.lookup a=none)->SqL K (λb=>if b=a then S else Ao b) a (ns.map V.int)->
   iO (bH P w) pD (.call (.ref fa) ⟨[.ref a],[]⟩) (λr s'=>r=.ok (.ret (.bool true))/\OldK s₁.heap s'.heap/\s'.os=s₁.os/\mC s'.gens) s₁:=by
  intro S hS hSK sq;generalize hH:(λb=>if b=a then S else Ao b)=H at sq;have Ha:H a=S:=by rw[<-hH];exact aG rfl
  have Hb:∀b,b≠a->H b=Ao b:=λb hb=>by rw[<-hH];exact aJ hb
  have kind:∀{b:Addr}{u:HO},H b=some u->(b=a/\u=.frz {cls:=.type "list",data:=.seq vs.toArray} (.lst (ns.map V.int))/\K.lookup a=none)\/∃p∈Mc,p.2.1=b/\u=.tbl p.2.2:=λ{b u} e=>by
   by_cases z:b=a
   ·rw[z,Ha]at e;rcases hS with y|y
    ·rw[y]at e;cases e
    ·rw[y]at e;cases e;exact .inl ⟨z,rfl,hSK (by rw[y];simp)⟩
   ·rw[Hb b z]at e;exact .inr (D3 e)
  have hok:HOk P w H s₁.heap:=λb u e=>by
   rcases kind e with ⟨rfl,rfl,_⟩|⟨p,hp,rfl,rfl⟩
   ·exact⟨ha,by rw[aO];exact hl,vs,_,rv,ha⟩
   ·exact⟨#[],(tb p hp).2,trivial⟩
  have base_of:∀{b:Addr}{o:Obj},s₁.heap.get? b=some o->H b=none->(Eo s₁.heap H).get? b=some o:=λe n=>Wk e n;have free:∀{b:Addr}{o:Obj},s₁.heap.get? b=some o->(∀n,o.data≠.seq vs.toArray n)->o≠nA #[]->H b=none:=λ{b o} e h1 h2=>by
   cases q:H b with
   |none=>rfl
   |some u=>
    rcases kind q with ⟨rfl,_⟩|⟨p,hp,rfl,_⟩
    ·rw[ha]at e;cases e;exact absurd rfl (h1 _)
    ·rw[(tb p hp).2]at e;cases e;exact absurd rfl h2
  have nsK:∀{b:Addr}{m:Str->Option aC},s₁.heap.Ns b m->(Eo s₁.heap H).Ns b m:=λ{b m} ⟨o,es,ep,e,d,r⟩=>⟨o,es,ep,base_of e (free e (λn z=>by rw[d]at z;cases z) λz=>by rw[z]at d;cases d),d,r⟩;have hKb:K.In (Eo s₁.heap H):=λb o e=>base_of (KX b o e) (by
   cases q:H b with
   |none=>rfl
   |some u=>
    rcases kind q with ⟨rfl,_,z⟩|⟨p,hp,rfl,_⟩
    ·rw[z]at e;cases e
    ·have e2:=KX _ _ e;rw[(tb p hp).2]at e2;have h2:=List.all_eq_true.mp nK _ (PySem.W.mem_of_lookupK e);cases e2;exact absurd (show false=true from h2) Bool.false_ne_true)
  have bmK:Bm mg (Eo s₁.heap H):=by
   obtain⟨m,o,b1,b2,b3,b4,b5,b6,b7⟩:=bm;exact⟨m,o,b1,b2,b3,base_of b4 (free b4 (λn z=>by rw[b7]at z;cases z) λz=>by rw[z]at b5;cases b5),b5,b6,b7⟩
  have hM:Mod K mg (Eo s₁.heap H):=⟨hKb,nsK hns,⟨mb,nsK hb,hbb⟩,let ⟨mc,h1,h2⟩:=hlim;⟨mc,nsK h1,h2⟩⟩;have e0:Env0 P w K mg (Eo s₁.heap H) pD [] s₁ H:=⟨rfl,hM,λb o e=>DY e,eQ (Ss _ _),trivial,λb hb=>absurd (show b∈([]:List Addr)from hb) (by simp),hok,.of_eq hg⟩;have gb:GOk H:=λp hp=>by
   have:p.2.1≠a:=λz=>by
    have:=(tb p hp).2;rw[z,ha]at this;cases this
   rw[Hb _ this];exact Ub nd hp
  refine eP ((F _ hKb (nsK hns) bmK).run pD [] s₁ H ⟨[.ref a],[]⟩ [.ref a] [.ref a] (λv _=>v=.bl true) E0 hr e0 (hbind s₁ (.ref a)) (.cons rfl .nil) ⟨gb,a,ns,rfl,sq,hl2,λ_=>rfl⟩) λr s' h=>?_;cases r with
  |error e=>exact eR h
  |ok fl=>
   cases fl with
   |next=>exact eR h
   |brk=>exact eR h
   |cont=>exact eR h
   |ret u=>
    obtain⟨v,H',os,bare,un,hok',r',q⟩:=h;have q':v=.bl true:=q;subst q';obtain rfl:u=lB true:=r';have keep:∀b o,s₁.heap.get? b=some o->(s'.heap.get? b=some o)\/∃p∈Mc,p.2.1=b/\∃ps,s'.heap.get? b=some (nA ps):=λb o e=>by
     cases q:H b with
     |none=>exact .inl (un.keep b o e q (by intro z;exact absurd (show b∈([]:List Addr)from z) (by simp)) (by simp))
     |some u=>
      rcases kind q with ⟨rfl,rfl,_⟩|⟨p,hp,rfl,rfl⟩
      ·obtain⟨e1,_⟩:=hok b _ q;obtain⟨e2,_⟩:=hok' b _ (un.frzs b _ _ q);rw[e]at e1;cases e1;exact .inl e2
      ·obtain⟨ps,e2,_⟩:=hok' _ _ (un.tbls _ _ q);exact .inr ⟨p,hp,rfl,ps,e2⟩
    refine⟨rfl,⟨λb o e=>?_,λb o e=>?_⟩,os,bare⟩
    ·rcases keep b o e with z|⟨p,hp,rfl,ps,z⟩
     ·exact .inl z
     ·obtain⟨c1,c2⟩:=tb p hp;rw[c2]at e;cases e;exact .inr (.inl ⟨(c1.tab c2).isCodeTable,rfl,#[],ps,rfl,by rw[Array.empty_append];exact z⟩)
    ·rcases keep b o e with z|⟨p,hp,rfl,ps,z⟩
     ·exact⟨_,z⟩
     ·exact⟨_,z⟩
 cases hk:K.lookup a with
 |some o=>
  have e:=KX a o hk;rw[ha]at e;cases e;exact core none (.inl rfl) (λz=>absurd rfl z) (.inr ⟨_,vs.toArray,_,hk,rfl,rfl,rfl,by rw[bC,lenV];exact hl,by simpa using rv⟩)
 |none=>exact core _ (.inr rfl) (λ_=>hk) (.inl (.inr ⟨{cls:=.type "list",data:=.seq vs.toArray},aG rfl⟩))
def TV{l:PySem.W.OpenLaw}{d:DefRec}{K:Params->aU}(hn:l.most=some 63)(hdf:d.params.defaults=[])(hr:Room k pD)(nd:(Mc.map (·.2.1)).Nodup)
  (hY:∀(w:bZ)(h:Heap),YP w h->(K w.params).In h)(nK:∀w:bZ,PySem.W.noTabs (K w.params)=true)
  (tb:∀(w:bZ)(h:Heap),YP w h->Uu h)
  (F:∀(w:bZ)(mg:Str->Option aC)(fa:Addr)(h:Heap),(K w.params).In h->h.Ns cO mg->mg d.name=some (.ref fa)->
   ∃fd:iC,(∀(s:aI)(u:aC),BindsTo s fd ⟨[u],[]⟩ [("_law_script",u)])/\∀base:Heap,(K w.params).In base->base.Ns cO mg->Bm mg base->FnOk l.prog w (K w.params) mg base OB k fa fd ["_law_script"] (Q4 (K w.params))):
  PySem.W.WalkO q loose XP YP l.row.toRowW d [] (λf vs=>PySem.call f vs):=by
 refine Att.Ji hn hdf λw s₀ s₁ mg mb fa o pm cd doc a vs ns G Y ho hd hcd hmg hobj hints hlen hg=>?_;have KX:=hY w _ Y;obtain⟨fd,hb,hF⟩:=F w mg fa _ KX G.T.g hmg;obtain⟨bm,ob,b1,b2,b3,b4,b5,b6⟩:=G.T.bmain;have bG:bm≠cO:=λz=>by
  obtain⟨o,es,ep,e,hd,_⟩:=G.T.g;rw[z,e]at b3;cases b3;rw[hd]at b6;cases b6
 exact S5 KX (nK w) nd (tb w _ Y) ⟨bm,ob,b1,b2,bG,b3,b4,b5,b6⟩ G.T.g G.T.b G.T.builtins G.T.nolimit hg hobj hints (cB hlen (by decide)) hlen hr hF hb
end Pu
end
section
namespace LK
open PySem PySem.Spec PyProof.Rows L2 Pu
def top(i:Nat):Stmt:=PySem.Challenge.pw_askbook_k17_whole_cut.main.body.getD i (.Pass ⟨0,0,0,0⟩)
def ko:DefR:=⟨"is_number",top 5,[true],false⟩
def kh:DefR:=⟨"is_tuple_of",top 6,[true,true,true,true],false⟩
def ui:DefR:=⟨"is_pair",top 7,[true],false⟩
def mi:DefR:=⟨"are_rising",top 8,[true],false⟩
def kq:DefR:=⟨"picked",top 10,[true,true],false⟩
def d4:DefR:=⟨"is_columns",top 12,[true,false],true⟩
def mq:DefR:=⟨"is_bond",top 13,[true,false],false⟩
def cz:DefR:=⟨"checked_bonds",top 14,[false,false],false⟩
def f9:DefR:=⟨"checked_columns",top 15,[false,false],false⟩
def ck:DefR:=⟨"lies_in",top 16,[true,true],false⟩
def gd:DefR:=⟨"next_step",top 17,[true,true],false⟩
def sj:DefR:=⟨"walked",top 18,[true,true,true],false⟩
def j0:DefR:=⟨"hanging",top 19,[true,true,true],false⟩
def jm:DefR:=⟨"choices",top 21,[true],true⟩
def jd:DefR:=⟨"all_columns",top 23,[true],false⟩
def m9:DefR:=⟨"widest",top 24,[true],false⟩
def g7:DefR:=⟨"checked_parts",top 25,[false,false],false⟩
def jr:DefR:=⟨"clash",top 26,[true,true],false⟩
def e8:DefR:=⟨"with_one_number",top 27,[true,false,false,true],false⟩
def js:DefR:=⟨"kept_table",top 28,[true,true],false⟩
def qg:DefR:=⟨"sound",top 29,[false,false,false],false⟩
def iu:DefR:=⟨"two_parts",top 30,[true,true],false⟩
def jq:DefR:=⟨"settled",top 31,[false,false,false],false⟩
def dq:DefR:=⟨"settled_parts",top 32,[true,false],false⟩
def B0:DefR:=⟨"cut",top 33,[false,false],false⟩
def kj:DefR:=⟨"_law_cell_at",top 35,[true,true],false⟩
def fi:DefR:=⟨"_law_mixed",top 36,[true,true,true],false⟩
def d5:DefR:=⟨"_law_columns",top 37,[true,true,true,true],false⟩
def jn:DefR:=⟨"_law_bonds",top 38,[true,true,true],false⟩
def jk:DefR:=⟨"_law_span",top 39,[true,true],false⟩
def cw:DefR:=⟨"_law_choices",top 40,[true],true⟩
def dj:DefR:=⟨"_law_fault",top 41,[true,true],false⟩
def j3:DefR:=⟨"_law_cut",top 42,[true,false],false⟩
def si:DefR:=⟨"law",top 43,[false],false⟩
def Jt:List DefR:=[ko,kh,ui,mi,kq,d4,mq,cz,f9,ck,gd,sj,j0,jm,jd,m9,g7,jr,e8,js,qg,iu,jq,dq,B0,kj,fi,d5,jn,jk,cw,dj,j3,si]
def xs:XT:=⟨λx=>decide (x="AskError")||(decide (x="NoBonds")||(decide (x="NoColumns")||(false))),λc y=>(decide (c="AskError") && decide (y="AskError"))||((decide (c="NoBonds") && decide (y="NoBonds"))||((decide (c="NoBonds") && decide (y="AskError"))||((decide (c="NoColumns") && decide (y="NoColumns"))||((decide (c="NoColumns") && decide (y="AskError"))||(false))))),λc=>decide (c="AskError")||(decide (c="NoBonds")||(decide (c="NoColumns")||(false))),λc y=>false,λx=>false,λc=>false⟩
def gs(x:Str):Option Str:=none
def KP:Dd si=true:=by decide+kernel
def tab(n:Nat):GT:=p6 Jt gs xs n
def ZN:List aC:=[.type "ValueError",.type "Exception",.type "BaseException",.type "object"]
def Pc:ExBase ZN "ValueError.__new__":=⟨"ValueError",_,_,_,_,_,PySem.F.excBase_ValueError,by decide+kernel,PySem.F.excBase_ValueError⟩
end LK
end
section
namespace Pu
open PySem PySem.Spec PyProof.Rows L2
def Qg:Nat->Expr->Option Expr
 |0,_=>none
 |n+1,e=>match e with
  |.Lambda p b s q=>some (.Lambda p b s q)
  |.BoolOp _ vs _=>vs.findSome? (Qg n)
  | .Call _ as ks _ => (match as.findSome? (Qg n) with
   |some e=>some e
   |none=>ks.findSome? λk=>Qg n k.value)
  |_=>none
def Ny(st:Stmt):Expr:=((ff st).findSome? λs=>match s with
 |.Return (some e) _=>Qg 10 e
 |_=>none).getD (.Name "" ⟨0,0,0,0⟩)
def e9{d:DefR}(h:gB T Pj (OO d.st d.lm) (ff d.st)=F)(hn:(GA d.st).length=k)(hm:d.ms=ms)(ds:List D):af T d ds=cn (F (b8 ms ds++aM (k - ds.length) .no)):=by
 unfold af WN;rw[h,hn,hm]
def ig(h:r U=.ok ds):gf tg r F U=turns tg F ds U:=by
 unfold gf;rw[h]
def di(h:tg d U=some δ1):turns tg F (d::r) U=(match F δ1 with
  |.nx δ'=>turns tg F r δ'
  |.ct δ'=>turns tg F r δ'
  |.bk δ'=>.nx δ'
  |.rt d=>.rt d
  |.er c=>.er c
  |.st=>.st):=by
 show(match tg d U with
  |none=>Out.st
  |some δ1=>match F δ1 with
   |.nx δ'=>turns tg F r δ'
   |.ct δ'=>turns tg F r δ'
   |.bk δ'=>.nx δ'
   |.rt d=>.rt d
   |.er c=>.er c
   |.st=>.st)=_
 rw[h]
theorem Fd:∀{ds:List D},(∀d∈ds,f d=some (g d))->ri f ds=some (ds.filterMap g)
 |[],_=>rfl
 |d::r,h=>by
  unfold ri;rw[h d aN];dsimp only;rw[Fd λd hd=>h d (aK _ hd),fF];cases g d<;>rfl
def Wb{ds:List D}(hr:r U=.ok ds)(hl:ds.length<=aQ)(hf:∀d∈ds,vk ix t g U d=some (h d)):bw r ix t g U=.ok (.lst (ds.filterMap h)):=by
 unfold bw;rw[hr];dsimp only;rw[aG hl,Fd hf]
def Zw(h:g (iq ix U (.pu d))=.ok y):vk ix (gC (.bl true)) g U d=some (some y):=by
 unfold vk gC;dsimp only;rw[h]
def GX(ht:t (iq ix U (.pu d))=.ok (.bl b))(h:b=true->g (iq ix U (.pu d))=.ok y):vk ix t g U d=some (if b then some y else none):=by
 unfold vk;rw[ht];cases b with
 |true=>dsimp only;rw[h rfl];rfl
 |false=>rfl
section
variable(U:En)(d e:D)(i j:Nat)(g h k c:En->Res)(F F':En->Out)(r:En->ResL)(f:D->Option D)(f2 f3:D->D->Option D)
@[simp] theorem ou(ms:List Bool):b8 ms []=[]:=by cases ms<;>rfl
@[simp] theorem uw(ms:List Bool)(ds:List D):b8 (true::ms) (d::ds)=.bo d::b8 ms ds:=rfl
@[simp] theorem OK(ms:List Bool)(ds:List D):b8 (false::ms) (d::ds)=.pu d::b8 ms ds:=rfl
@[simp] theorem bz:bj F F' U=match F U with
 |.nx δ'=>F' δ'
 |o=>o:=rfl
@[simp] theorem YH:jy U=.nx U:=rfl
@[simp] theorem YZ:Q2 U=.nx U:=rfl
@[simp] theorem ZO:wm U=.st:=rfl
@[simp] theorem YK:jx U=.st:=rfl
@[simp] theorem uf:cq g U=(g U).then .rt:=rfl
@[simp] theorem Iu:t7 c F F' U=(c U).then λd=>match d with
 |.bl true=>F U
 |.bl false=>F' U
 |_=>.st:=rfl
@[simp] theorem iw:fj i g U=(g U).then λd=>.nx (U.set i (.pu d)):=rfl
@[simp] theorem Pa:fw i g U=(g U).then λd=>match d with
 |.lst ds=>.nx (U.set i (.ow ds))
 |_=>.st:=rfl
@[simp] theorem YY:RG i U=.nx (U.set i (.od false [])):=rfl
@[simp] theorem VG:MB i g U=(g U).then λd=>match d with
 |.dct false kvs=>.nx (U.set i (.od false kvs))
 |_=>.st:=rfl
@[simp] theorem bp(f:D->Out):(Res.ok d).then f=f d:=rfl
@[simp] theorem OF(f:D->Out):Res.st.then f=.st:=rfl
@[simp] theorem OG(f:D->Out)(c:Str):(Res.er c).then f=.er c:=rfl
@[simp] theorem bq(f:D->Res):(Res.ok d).bind f=f d:=rfl
@[simp] theorem OL(f:D->Res):Res.st.bind f=.st:=rfl
@[simp] theorem OM(f:D->Res)(c:Str):(Res.er c).bind f=.er c:=rfl
@[simp] theorem g9:Res.of (some d)=.ok d:=rfl
@[simp] theorem OH:Res.of none=.st:=rfl
@[simp] theorem SB:cn (.rt d)=.ok d:=rfl
@[simp] theorem SD:cn (.nx U)=.ok .non:=rfl
@[simp] theorem SA:cn .st=.st:=rfl
@[simp] theorem SE(c:Str):cn (.er c)=.er c:=rfl
@[simp] theorem HG:ao i U=match U[i]? with
 |some (.pu d)=>.ok d
 |_=>.st:=rfl
@[simp] theorem Z2:aa i U=match U[i]? with
 |some (.pu d)=>.ok d
 |some (.bo d)=>.ok d
 |some (.ow ds)=>.ok (.lst ds)
 |some (.od t kvs)=>.ok (.dct t kvs)
 |_=>.st:=rfl
@[simp] theorem ZT:yz i U=match U[i]? with
 |some (.pu d)=>.ok d
 |some (.bo d)=>.ok d
 |_=>.st:=rfl
@[simp] theorem YN:gC d U=.ok d:=rfl
@[simp] theorem Et:g1 f g U=(g U).bind λx=>Res.of (f x):=rfl
@[simp] theorem rf:g2 f2 g h U=(g U).bind λx=>(h U).bind λy=>Res.of (f2 x y):=rfl
@[simp] theorem HH:Mo c g h U=(c U).bind λd=>match d with
 |.bl true=>g U
 |.bl false=>h U
 |_=>.st:=rfl
@[simp] theorem Rj:jt c U=(c U).bind λd=>match d with
 |.bl b=>.ok (.bl !b)
 |_=>.st:=rfl
@[simp] theorem Rg:nh g h U=(g U).bind λd=>match d with
 |.bl true=>h U
 |.bl false=>.ok (.bl false)
 |_=>.st:=rfl
@[simp] theorem Z4:Ad g h U=(g U).bind λd=>match d with
 |.bl true=>.ok (.bl true)
 |.bl false=>h U
 |_=>.st:=rfl
@[simp] theorem Mj:mj g U=(g U).bind λx=>Res.of (bD (Ir x)):=rfl
@[simp] theorem TZ(b:Bool):bD (Ir (.bl b))=some (.bl b):=rfl
@[simp] theorem Rh:ni f2 f3 g h k U=(g U).bind λx=>(h U).bind λy=>(Res.of (f2 x y)).bind λz=>match z with
 |.bl true=>(k U).bind λw=>Res.of (f3 y w)
 |.bl false=>.ok (.bl false)
 |_=>.st:=rfl
@[simp] theorem n6:ae g r U=match g U with
 | .ok d => (match r U with
  |.ok ds=>.ok (d::ds)
  |.er c=>.er c
  |.st=>.st)
 |.er c=>.er c
 |.st=>.st:=rfl
@[simp] theorem O9:ai U=.ok []:=rfl
@[simp] theorem XB(fn:List D->Res):aj fn r U=match r U with
 |.ok ds=>fn ds
 |.er c=>.er c
 |.st=>.st:=rfl
@[simp] theorem Z3:ft r U=match r U with
 |.ok ds=>if ds.length<=16777216 then .ok (.lst ds)else .st
 |.er c=>.er c
 |.st=>.st:=rfl
@[simp] theorem Z5:ia r U=match r U with
 |.ok ds=>if ds.length<=16777216 then .ok (.tup ds)else .st
 |.er c=>.er c
 |.st=>.st:=rfl
@[simp] theorem D6:ba g U=match g U with
 | .ok d => (match Gf d with
  |some ds=>.ok ds
  |none=>.st)
 |.er c=>.er c
 |.st=>.st:=rfl
@[simp] theorem TY(ds:List D):Gf (.lst ds)=some ds:=rfl
@[simp] theorem TX(ds:List D):Gf (.tup ds)=some ds:=rfl
@[simp] theorem b9:fz [] F U=F U:=rfl
@[simp] theorem mn(is:List Nat):fz (i::is) F U=fz is F (frz i U):=rfl
@[simp] theorem ik:frz i U=match U[i]? with
 |some (.ow ds)=>U.set i (.pu (.lst ds))
 |some (.od t kvs)=>U.set i (.pu (.dct t kvs))
 |_=>U:=rfl
@[simp] theorem SG:bf i d U=some (U.set i (.pu d)):=rfl
@[simp] theorem SH:pq i g U=match U[i]? with
 |some (.ow ds)=>(g U).then λd=>if ds.length<16777216 then .nx (U.set i (.ow (ds++[d])))else .st
 |_=>.st:=rfl
@[simp] theorem YL:uy i g U=match U[i]? with
 |some (.ow ds)=>(g U).then λd=>match vq d with
  |some es=>if ds.length+es.length<=16777216 then .nx (U.set i (.ow (ds++es)))else .st
  |none=>.st
 |_=>.st:=rfl
@[simp] theorem OJ(ds:List D):vq (.lst ds)=some ds:=rfl
@[simp] theorem OI(ds:List D):vq (.tup ds)=some ds:=rfl
@[simp] theorem VI(ds:List D):fe (.lst ds)=some (.int ds.length):=rfl
@[simp] theorem VH(ds:List D):fe (.tup ds)=some (.int ds.length):=rfl
@[simp] theorem UU(d:D)(xs:List D):cg d (.lst xs)=Ep d (.lst xs):=rfl
@[simp] theorem US(d:D)(xs:List D):cg d (.tup xs)=Ep d (.tup xs):=rfl
@[simp] theorem UT(d:D)(x:Str):cg d (.str x)=Ep d (.str x):=rfl
@[simp] theorem OW(d:D)(xs:List D):cj d (.lst xs)=kl d (.lst xs):=rfl
@[simp] theorem OU(d:D)(xs:List D):cj d (.tup xs)=kl d (.tup xs):=rfl
@[simp] theorem OV(d:D)(x:Str):cj d (.str x)=kl d (.str x):=rfl
@[simp] theorem XA(a b:Int):mf (.int a) (.int b)=some (.bl (decide (a<b))):=rfl
@[simp] theorem ZP(a b:Int):Ob (.int a) (.int b)=some (.bl (decide (a<=b))):=rfl
@[simp] theorem ZQ(a b:Int):MG (.int a) (.int b)=some (.bl (decide (b<a))):=rfl
@[simp] theorem ZR(a b:Int):RS (.int a) (.int b)=some (.bl (decide (b<=a))):=rfl
@[simp] theorem YM(a b:Int):jw (.int a) (.int b)=some (.bl (a==b)):=rfl
@[simp] theorem YI(a b:Int):dh (.int a) (.int b)=some (.bl (!(a==b))):=rfl
@[simp] theorem SI(a b:Int):bx (.int a) (.int b)=some (.int (a+b)):=rfl
@[simp] theorem YG(a b:Int):Ln (.int a) (.int b)=some (.int (a - b)):=rfl
@[simp] theorem YJ:me d .non=some (.bl (Co d)):=rfl
@[simp] theorem SF:jf d .non=some (.bl (!Co d)):=rfl
@[simp] theorem OE(ds:List D):cu (.lst ds)=some (.tup ds):=rfl
@[simp] theorem OD(ds:List D):cu (.tup ds)=some (.tup ds):=rfl
@[simp] theorem ZS:gM f2 g h U=(g U).bind λx=>match x with
 |.lst xs=>(h U).bind λy=>Res.of (f2 (.lst xs) y)
 |_=>.st:=rfl
@[simp] theorem VV(x:Str):cy "str" (.str x)=some (.bl true):=by kernel_rfl
@[simp] theorem VY(x:Int):cy "str" (.int x)=some (.bl false):=by kernel_rfl
@[simp] theorem VZ(x:Bool):cy "str" (.bl x)=some (.bl false):=by kernel_rfl
@[simp] theorem VW:cy "str" .non=some (.bl false):=by kernel_rfl
@[simp] theorem VU(x:List D):cy "str" (.tup x)=some (.bl false):=by kernel_rfl
@[simp] theorem VX(x:List D):cy "str" (.lst x)=some (.bl false):=by kernel_rfl
@[simp] theorem UH(x:Str):cy "int" (.str x)=some (.bl false):=by kernel_rfl
@[simp] theorem UK(x:Int):cy "int" (.int x)=some (.bl true):=by kernel_rfl
@[simp] theorem UL(x:Bool):cy "int" (.bl x)=some (.bl true):=by kernel_rfl
@[simp] theorem UI:cy "int" .non=some (.bl false):=by kernel_rfl
@[simp] theorem UG(x:List D):cy "int" (.tup x)=some (.bl false):=by kernel_rfl
@[simp] theorem UJ(x:List D):cy "int" (.lst x)=some (.bl false):=by kernel_rfl
@[simp] theorem UN(x:Str):cy "bool" (.str x)=some (.bl false):=by kernel_rfl
@[simp] theorem UP(x:Int):cy "bool" (.int x)=some (.bl false):=by kernel_rfl
@[simp] theorem UQ(x:Bool):cy "bool" (.bl x)=some (.bl true):=by kernel_rfl
@[simp] theorem UO:cy "bool" .non=some (.bl false):=by kernel_rfl
@[simp] theorem UM(x:List D):cy "bool" (.tup x)=some (.bl false):=by kernel_rfl
@[simp] theorem UR(x:List D):cy "bool" (.lst x)=some (.bl false):=by kernel_rfl
@[simp] theorem VP(x:Str):cy "tuple" (.str x)=some (.bl false):=by kernel_rfl
@[simp] theorem VS(x:Int):cy "tuple" (.int x)=some (.bl false):=by kernel_rfl
@[simp] theorem VT(x:Bool):cy "tuple" (.bl x)=some (.bl false):=by kernel_rfl
@[simp] theorem VQ:cy "tuple" .non=some (.bl false):=by kernel_rfl
@[simp] theorem VO(x:List D):cy "tuple" (.tup x)=some (.bl true):=by kernel_rfl
@[simp] theorem VR(x:List D):cy "tuple" (.lst x)=some (.bl false):=by kernel_rfl
@[simp] theorem UB(x:Str):cy "list" (.str x)=some (.bl false):=by kernel_rfl
@[simp] theorem UE(x:Int):cy "list" (.int x)=some (.bl false):=by kernel_rfl
@[simp] theorem UF(x:Bool):cy "list" (.bl x)=some (.bl false):=by kernel_rfl
@[simp] theorem UC:cy "list" .non=some (.bl false):=by kernel_rfl
@[simp] theorem UA(x:List D):cy "list" (.tup x)=some (.bl false):=by kernel_rfl
@[simp] theorem UD(x:List D):cy "list" (.lst x)=some (.bl true):=by kernel_rfl
@[simp] theorem VN(a b:D):br (.tup [a,b]) (.int 0)=some a:=rfl
@[simp] theorem GV(a b:D):br (.tup [a,b]) (.int 1)=some b:=rfl
@[simp] theorem VM(a b c:D):br (.tup [a,b,c]) (.int 0)=some a:=rfl
@[simp] theorem VL(a b c:D):br (.tup [a,b,c]) (.int 1)=some b:=rfl
@[simp] theorem VJ(a b c:D):br (.tup [a,b,c]) (.int 2)=some c:=rfl
def WV(d:D):Prop:=∃p,fk d=some p/\dI p=true/\p.depth<=8
def FO(i:Int):WV (.int i):=⟨.int i,rfl,rfl,bX _⟩
def AQ(ds:List D):Prop:=∃ps,d8 ds=some ps/\bB ps=true/\bV ps<=8
theorem NT:∀{ds:List D},(∀d∈ds,WV d)->AQ ds
 |[],_=>⟨[],rfl,rfl,bX _⟩
 |d::r,h=>by
  obtain⟨p,e1,e2,e3⟩:=h d aN;obtain⟨ps,f1,f2,f3⟩:=NT (ds:=r) λd hd=>h d (aK _ hd);refine⟨p::ps,by unfold d8;rw[e1,f1],?_,Nat.max_le.mpr ⟨e3,f3⟩⟩;show(dI p && bB ps)=true;rw[e2,f2];rfl
def wd{p:jI}(h1:dI p=true)(h2:p.depth<=63):cZ p=true:=by
 unfold cZ;rw[h1,decide_eq_true (by lia)];rfl
def Nd{d e:D}{p q:jI}(h1:fk d=some p)(h2:fk e=some q)(a1:dI p=true)(a2:p.depth<=63)(b1:dI q=true)(b2:q.depth<=63):Sq d e=some (dB p q):=by
 unfold Sq;rw[h1,h2];dsimp only;rw[wd a1 a2,wd b1 b2];rfl
def P1{ds:List D}(h:AQ ds):jw (.lst ds) (.lst [])=some (.bl ds.isEmpty)/\dh (.lst ds) (.lst [])=some (.bl (!ds.isEmpty)):=by
 obtain⟨ps,e1,e2,e3⟩:=h;have q:Sq (.lst ds) (.lst [])=some (dB (.list ps) (.list [])):=Nd (by unfold fk;rw[e1]) rfl e2 (show bV ps+1<=63 by lia) rfl (show 0+1<=63 by lia);have e:dB (.list ps) (.list [])=ds.isEmpty:=by
  cases ds with
  |nil=>cases e1;rfl
  |cons d r=>
   unfold d8 at e1;cases h1:fk d with
   |none=>rw[h1]at e1;cases e1
   |some p=>
    cases h2:d8 r with
    |none=>rw[h1,h2]at e1;cases e1
    |some ps'=>rw[h1,h2]at e1;cases e1;rfl
 unfold jw dh;rw[q,e];exact⟨rfl,rfl⟩
def Ri(a b:Int)(h:0<b):Dm (.int a) (.int b)=some (.int (a % b)):=aG h
def Gd(a b:Int)(h:(-(2 ^ 64)<a/\a<2 ^ 64)\/(-(2 ^ 64)<b/\b<2 ^ 64)):lg (.int a) (.int b)=some (.int (a * b)):=aG h
def ue(hr:r U=.ok [.int j'])(h:-(2 ^ 62)<=j'/\j'<2 ^ 62):fx r U=.ok (gz 0 j'.toNat):=by
 unfold fx;rw[hr];exact aG h
end
end Pu
end
section
namespace LK
open PySem PySem.Spec PyProof.Rows L2 Pu
def zu(n:Nat):En->Out:=(cq (nh (g1 (cy "int") (aa 0)) (jt (g1 (cy "bool") (aa 0)))))
def Jy(n:Nat)(ds:List D):af (tab (n+1)) ko ds=cn (zu n (b8 [true] ds++aM (1 - ds.length) .no)):=e9 (by kernel_rfl) (by decide+kernel) rfl ds
def u6(n:Nat):En->Out:=(bj (t7 (Ad (jt (mj (g1 (cy "tuple") (aa 0)))) (jt (ni Ob Ob (aa 1) (g1 fe (aa 0)) (aa 2)))) (cq (gC (.bl false))) jy)
 (cq (g1 t6 (bw (ba (aa 0)) [3] (gC (.bl true)) (y0 (tab (n+1)) 1 [((aa 0),(ao 0))])))))
def Eg(n:Nat)(ds:List D):af (tab (n+1)) kh ds=cn (u6 n (b8 [true,true,true,true] ds++aM (4 - ds.length) .no)):=e9 (by kernel_rfl) (by decide+kernel) rfl ds
def E4(n:Nat):En->Out:=(cq (nh (g1 (cy "tuple") (aa 0)) (g2 jw (g1 fe (aa 0)) (gC (.int 2)))))
def Sh(n:Nat)(ds:List D):af (tab (n+1)) ui ds=cn (E4 n (b8 [true] ds++aM (1 - ds.length) .no)):=e9 (by kernel_rfl) (by decide+kernel) rfl ds
def wy(n:Nat):En->Out:=(cq (g1 t6 (bw (fx (ae (g2 Ln (g1 fe (aa 0)) (gC (.int 1))) ai)) [0] (gC (.bl true)) (g2 mf (g2 br (aa 1) (aa 0)) (g2 br (aa 1) (g2 bx (aa 0) (gC (.int 1))))))))
def Gz(n:Nat)(ds:List D):af (tab (n+1)) mi ds=cn (wy n (b8 [true] ds++aM (1 - ds.length) .no)):=e9 (by kernel_rfl) (by decide+kernel) rfl ds
def Jk(n:Nat):En->Out:=(cq (g1 cu (bw (ba (aa 1)) [0] (gC (.bl true)) (g2 br (aa 1) (aa 0)))))
def Vu(n:Nat)(ds:List D):af (tab (n+1)) kq ds=cn (Jk n (b8 [true,true] ds++aM (2 - ds.length) .no)):=e9 (by kernel_rfl) (by decide+kernel) rfl ds
def gx:Expr:=Ny d4.st
def xa(n:Nat):En->Res:=(nh (aj (af (tab n) ko) (ae (aa 0) ai)) (ni Ob mf (gC (.int 0)) (aa 0) (aa 1)))
def Ek(n:Nat)(v0 d:D):(tab (n+2)).lam gx [("many",v0)] [d]=xa n [.pu d,.pu v0]:=by kernel_rfl
def wz(n:Nat):En->Out:=(cq (nh (aj (af (tab n) kh) (ae (aa 0) (ae (gC (.int 0)) (ae (aa 1) (ae (Ac gx ["many"] [1]) ai))))) (aj (af (tab n) mi) (ae (aa 0) ai))))
def G7(n:Nat)(ds:List D):af (tab (n+1)) d4 ds=cn (wz n (b8 [true,false] ds++aM (2 - ds.length) .no)):=e9 (by kernel_rfl) (by decide+kernel) rfl ds
def E1(n:Nat):En->Out:=(fz [1,1] (cq (nh (aj (af (tab n) ui) (ae (aa 0) ai)) (nh (aj (af (tab n) d4) (ae (g2 br (aa 0) (gC (.int 0))) (ae (ao 1) ai))) (aj (af (tab n) d4) (ae (g2 br (aa 0) (gC (.int 1))) (ae (ao 1) ai)))))))
def Sg(n:Nat)(ds:List D):af (tab (n+1)) mq ds=cn (E1 n (b8 [true,false] ds++aM (2 - ds.length) .no)):=e9 (by kernel_rfl) (by decide+kernel) rfl ds
def rh(n:Nat):En->Out:=(bj (t7 (Ad (jt (mj (aj (af (tab n) ko) (ae (aa 1) ai)))) (jt (ni Ob Ob (gC (.int 1)) (aa 1) (gC (.int 6))))) (qz "NoBonds" (ae (gC (.str "a table has 1 to 6 columns")) ai)) jy)
 (bj (t7 (Ad (jt (mj (g1 (cy "list") (aa 0)))) (g2 MG (g1 fe (aa 0)) (gC (.int 10)))) (qz "NoBonds" (ae (gC (.str "bonds are a list of at most 10")) ai)) jy)
 (bj (fz [1] (t7 (jt (mj (g1 t6 (bw (ba (aa 0)) [1] (gC (.bl true)) (aj (af (tab n) mq) (ae (aa 0) (ae (ao 1) ai))))))) (qz "NoBonds" (ae (gC (.str "a bond is a tuple of two rising tuples of columns")) ai)) jy))
 (fz [0] (cq (ao 0))))))
def Av(n:Nat)(ds:List D):af (tab (n+1)) cz ds=cn (rh n (b8 [false,false] ds++aM (2 - ds.length) .no)):=e9 (by kernel_rfl) (by decide+kernel) rfl ds
def oi(n:Nat):En->Out:=(bj (fz [1] (t7 (jt (mj (aj (af (tab n) d4) (ae (aa 0) (ae (ao 1) ai))))) (qz "NoColumns" (ae (gC (.str "columns are a rising tuple of numbers from 0 on, below how many there are")) ai)) jy))
 (fz [0] (cq (ao 0))))
def xg(n:Nat)(ds:List D):af (tab (n+1)) f9 ds=cn (oi n (b8 [false,false] ds++aM (2 - ds.length) .no)):=e9 (by kernel_rfl) (by decide+kernel) rfl ds
def yo(n:Nat):En->Out:=(cq (g1 t6 (bw (ba (aa 0)) [1] (gC (.bl true)) (g2 cg (aa 0) (aa 1)))))
def Fg(n:Nat)(ds:List D):af (tab (n+1)) ck ds=cn (yo n (b8 [true,true] ds++aM (2 - ds.length) .no)):=e9 (by kernel_rfl) (by decide+kernel) rfl ds
def rq(n:Nat):En->Out:=(bj (gf (kr [2,3]) (Cd (yz 0)) (t7 (nh (mj (aj (af (tab n) ck) (ae (g2 br (aa 3) (gC (.int 0))) (ae (aa 1) ai)))) (jt (mj (aj (af (tab n) ck) (ae (g2 br (aa 3) (gC (.int 1))) (ae (aa 1) ai)))))) (fz [2] (cq (ao 2))) jy))
 (cq (gC .non)))
def J4(n:Nat)(ds:List D):af (tab (n+1)) gd ds=cn (rq n (b8 [true,true] ds++aM (4 - ds.length) .no)):=e9 (by kernel_rfl) (by decide+kernel) rfl ds
def Jl(n:Nat):En->Out:=(bj (fw 3 (g1 fh (aa 1)))
 (bj (fw 4 (ft ai))
 (bj (fj 5 (aj (af (tab n) gd) (ae (aa 0) (ae (aa 3) ai))))
 (bj (fz [] (Yw (nh (g2 jf (aa 5) (gC .non)) (jt (mj (aj (af (tab n) ck) (ae (aa 2) (ae (aa 3) ai)))))) (bj (fz [5] (pq 4 (ao 5)))
 (bj (uy 3 (g2 br (g2 br (aa 0) (aa 5)) (gC (.int 1))))
 (fj 5 (aj (af (tab n) gd) (ae (aa 0) (ae (aa 3) ai))))))))
 (fz [4,3] (cq (ia (ae (ao 4) (ae (ao 3) ai)))))))))
def Vv(n:Nat)(ds:List D):af (tab (n+1)) sj ds=cn (Jl n (b8 [true,true,true] ds++aM (6 - ds.length) .no)):=e9 (by kernel_rfl) (by decide+kernel) rfl ds
def Ez(n:Nat):En->Out:=(bj (fj 3 (g2 br (aj (af (tab n) sj) (ae (aa 0) (ae (aa 1) (ae (aa 2) ai)))) (gC (.int 1))))
 (cq (g1 cu (bw (ba (aa 2)) [3] (g2 cg (aa 0) (aa 1)) (ao 0)))))
def Sf(n:Nat)(ds:List D):af (tab (n+1)) j0 ds=cn (Ez n (b8 [true,true,true] ds++aM (4 - ds.length) .no)):=e9 (by kernel_rfl) (by decide+kernel) rfl ds
def za:Expr:=Ny jm.st
def Fc(n:Nat):En->Res:=(ia (ae (g1 fe (aa 0)) (ae (ao 0) ai)))
def Nb(n:Nat)(d:D):(tab (n+2)).lam za [] [d]=Fc n [.pu d]:=by kernel_rfl
def Rt(n:Nat):En->Out:=(bj (fw 1 (ft (ae (ia ai) ai)))
 (bj (fz [0] (gf (bf 2) (ba (yz 0)) (fz [2] (fj 1 (g2 bx (aa 1) (bw (ba (aa 1)) [2] (gC (.bl true)) (g2 bx (aa 0) (ia (ae (ao 1) ai)))))))))
 (cq (s8 (tab (n+1)) (aa 1) (Ac za [] [])))))
def Se(n:Nat)(ds:List D):af (tab (n+1)) jm ds=cn (Rt n (b8 [true] ds++aM (3 - ds.length) .no)):=e9 (by kernel_rfl) (by decide+kernel) rfl ds
def u5(n:Nat):En->Out:=(bj (fw 1 (ft ai))
 (bj (fz [0] (gf (bf 2) (ba (yz 0)) (uy 1 (aa 2))))
 (cq (g1 cf (aa 1)))))
def Ef(n:Nat)(ds:List D):af (tab (n+1)) jd ds=cn (u5 n (b8 [true] ds++aM (3 - ds.length) .no)):=e9 (by kernel_rfl) (by decide+kernel) rfl ds
def Bq(n:Nat):En->Out:=(bj (fj 1 (g1 cf (aa 0)))
 (cq (bw (ba (aa 1)) [1] (jt (mj (g1 vj (bw (ba (aa 1)) [0] (gC (.bl true)) (nh (g2 dh (aa 1) (aa 0)) (aj (af (tab n) ck) (ae (aa 1) (ae (aa 0) ai)))))))) (ao 0))))
def Vw(n:Nat)(ds:List D):af (tab (n+1)) m9 ds=cn (Bq n (b8 [true] ds++aM (2 - ds.length) .no)):=e9 (by kernel_rfl) (by decide+kernel) rfl ds
def ly(n:Nat):En->Out:=(bj (fz [1] (t7 (Ad (jt (mj (g1 (cy "list") (aa 0)))) (jt (mj (g1 t6 (bw (ba (aa 0)) [1] (gC (.bl true)) (aj (af (tab n) d4) (ae (aa 0) (ae (ao 1) ai)))))))) (qz "NoColumns" (ae (gC (.str "parts are a list of rising tuples of columns")) ai)) jy))
 (bj (t7 (g2 mf (g1 fe (aj (af (tab n) jd) (ae (aa 0) ai))) (aa 1)) (qz "NoColumns" (ae (gC (.str "parts are together all columns")) ai)) jy)
 (fz [0] (cq (ao 0)))))
def Aw(n:Nat)(ds:List D):af (tab (n+1)) g7 ds=cn (ly n (b8 [false,false] ds++aM (2 - ds.length) .no)):=e9 (by kernel_rfl) (by decide+kernel) rfl ds
def A3(n:Nat):En->Out:=(bj (fz [0] (gf (kr [2,3]) (ba (yz 0)) (bj (Ig 4)
 (fz [1] (gf (bf 5) (ba (yz 1)) (bj (fz [5] (ot 6 (ju 4 (aj (af (tab n) kq) (ae (aa 5) (ae (aa 2) ai))) (ao 5))))
 (fz [3] (gf (bf 7) (ba (yz 3)) (t7 (g2 dh (g2 br (aa 6) (aa 7)) (g2 br (aa 5) (aa 7))) (fz [7] (cq (ia (ae (ao 7) (ae (g2 Dl (g2 br (aa 6) (aa 7)) (g2 br (aa 5) (aa 7))) (ae (g2 Dk (g2 br (aa 6) (aa 7)) (g2 br (aa 5) (aa 7))) ai)))))) jy)))))))))
 (cq (gC .non)))
def BZ(n:Nat)(ds:List D):af (tab (n+1)) jr ds=cn (A3 n (b8 [true,true] ds++aM (8 - ds.length) .no)):=e9 (by kernel_rfl) (by decide+kernel) rfl ds
def oj(n:Nat):En->Out:=(bj (fw 4 (ft ai))
 (bj (fz [0] (gf (bf 5) (ba (yz 0)) (bj (fz [2] (fj 6 (Mo (g2 jw (g2 br (aa 5) (aa 1)) (aa 3)) (ao 2) (g2 br (aa 5) (aa 1)))))
 (fz [6] (pq 4 (g2 bx (g2 bx (Wg (aa 5) none (some (ao 1))) (ia (ae (ao 6) ai))) (Wg (aa 5) (some (g2 bx (aa 1) (gC (.int 1)))) none)))))))
 (fz [4] (cq (ao 4)))))
def xh(n:Nat)(ds:List D):af (tab (n+1)) e8 ds=cn (oj n (b8 [true,false,false,true] ds++aM (7 - ds.length) .no)):=e9 (by kernel_rfl) (by decide+kernel) rfl ds
def w8(n:Nat):En->Out:=(bj (fj 2 (aj (af (tab n) jr) (ae (aa 0) (ae (aa 1) ai))))
 (bj (fz [] (Yw (g2 jf (aa 2) (gC .non)) (bj (fj 1 (aj (af (tab n) e8) (ae (aa 1) (ae (g2 br (aa 2) (gC (.int 0))) (ae (g2 br (aa 2) (gC (.int 1))) (ae (g2 br (aa 2) (gC (.int 2))) ai))))))
 (fj 2 (aj (af (tab n) jr) (ae (aa 0) (ae (aa 1) ai)))))))
 (cq (g1 cf (aa 1)))))
def G8(n:Nat)(ds:List D):af (tab (n+1)) js ds=cn (w8 n (b8 [true,true] ds++aM (3 - ds.length) .no)):=e9 (by kernel_rfl) (by decide+kernel) rfl ds
def Gm(n:Nat):En->Out:=(bj (fz [0,1] (ny (aj (af (tab n) cz) (ae (ao 0) (ae (ao 1) ai)))))
 (bj (fz [2,1] (ny (aj (af (tab n) g7) (ae (ao 2) (ae (ao 1) ai)))))
 (bj (fw 3 (ft ai))
 (bj (gf (kr [4,5]) (Kd (aj (af (tab n) m9) (ae (aa 2) ai))) (fz [4] (pq 3 (g1 cu (bw (fx (ae (aa 1) ai)) [5,4] (gC (.bl true)) (Mo (g2 cg (aa 0) (aa 1)) (gC (.int 0)) (ao 2)))))))
 (bj (fj 6 (aj (af (tab n) js) (ae (aa 0) (ae (aa 3) ai))))
 (bj (t7 (g2 cg (g1 cu (Kh (ft (ae (gC (.int 0)) ai)) (aa 1))) (aa 6)) (cq (ia (ae (gC (.str "sound")) (ae (gC .non) ai)))) jy)
 (fz [6] (cq (ia (ae (gC (.str "rows")) (ae (ao 6) ai)))))))))))
def BY(n:Nat)(ds:List D):af (tab (n+1)) qg ds=cn (Gm n (b8 [false,false,false] ds++aM (7 - ds.length) .no)):=e9 (by kernel_rfl) (by decide+kernel) rfl ds
def zy(n:Nat):En->Out:=(bj (gf (bf 2) (ba (aj (af (tab n) jm) (ae (aa 1) ai))) (bj (fj 3 (aj (af (tab n) j0) (ae (aa 0) (ae (aa 2) (ae (aa 1) ai)))))
 (t7 (ni mf mf (g1 fe (aa 2)) (g1 fe (aa 3)) (g1 fe (aa 1))) (fz [3] (cq (ia (ae (ao 3) (ae (g1 cu (bw (ba (aa 1)) [2,3] (Ad (g2 cg (aa 0) (aa 1)) (g2 cj (aa 0) (aa 2))) (ao 0))) ai))))) jy)))
 (cq (gC .non)))
def J5(n:Nat)(ds:List D):af (tab (n+1)) iu ds=cn (zy n (b8 [true,true] ds++aM (4 - ds.length) .no)):=e9 (by kernel_rfl) (by decide+kernel) rfl ds
def yp(n:Nat):En->Out:=(bj (fz [0,1] (ny (aj (af (tab n) cz) (ae (ao 0) (ae (ao 1) ai)))))
 (bj (fz [2,1] (ny (aj (af (tab n) f9) (ae (ao 2) (ae (ao 1) ai)))))
 (cq (g2 me (aj (af (tab n) iu) (ae (aa 0) (ae (aa 2) ai))) (gC .non)))))
def Sj(n:Nat)(ds:List D):af (tab (n+1)) jq ds=cn (yp n (b8 [false,false,false] ds++aM (3 - ds.length) .no)):=e9 (by kernel_rfl) (by decide+kernel) rfl ds
def l7(n:Nat):En->Out:=(bj (fj 2 (aj (af (tab n) iu) (ae (aa 0) (ae (aa 1) ai))))
 (bj (t7 (g2 me (aa 2) (gC .non)) (fz [1] (cq (ft (ae (ao 1) ai)))) jy)
 (cq (g2 bx (aj (af (tab n) dq) (ae (aa 0) (ae (g2 br (aa 2) (gC (.int 0))) ai))) (aj (af (tab n) dq) (ae (aa 0) (ae (g2 br (aa 2) (gC (.int 1))) ai)))))))
def Ax(n:Nat)(ds:List D):af (tab (n+1)) dq ds=cn (l7 n (b8 [true,false] ds++aM (3 - ds.length) .no)):=e9 (by kernel_rfl) (by decide+kernel) rfl ds
def U1(n:Nat):En->Out:=(bj (fz [0,1] (ny (aj (af (tab n) cz) (ae (ao 0) (ae (ao 1) ai)))))
 (cq (aj (af (tab n) dq) (ae (aa 0) (ae (g1 fc (aa 1)) ai)))))
def PK(n:Nat)(ds:List D):af (tab (n+1)) B0 ds=cn (U1 n (b8 [false,false] ds++aM (2 - ds.length) .no)):=e9 (by kernel_rfl) (by decide+kernel) rfl ds
def j9(n:Nat):En->Out:=(bj (t7 (g2 mf (aa 1) (g1 fe (aa 0))) (cq (g2 br (aa 0) (aa 1))) jy)
 (bj (t7 (g2 jw (aa 0) (ft ai)) (cq (gC (.int 0))) jy)
 (cq (g2 bx (g2 lg (g2 br (aa 0) (g2 Dm (aa 1) (g1 fe (aa 0)))) (gC (.int 31))) (aa 1)))))
def Eh(n:Nat)(ds:List D):af (tab (n+1)) kj ds=cn (j9 n (b8 [true,true] ds++aM (2 - ds.length) .no)):=e9 (by kernel_rfl) (by decide+kernel) rfl ds
def zx(n:Nat):En->Out:=(bj (fj 3 (g2 Dm (g2 lg (g2 bx (g2 bx (aj (af (tab n) kj) (ae (aa 0) (ae (aa 1) ai))) (g2 lg (gC (.int 7919)) (aa 1))) (gC (.int 1))) (gC (.int 48271))) (gC (.int 2147483647))))
 (cq (g2 Dm (g2 Dm (g2 bx (g2 bx (g2 lg (aa 3) (aa 3)) (g2 lg (gC (.int 7)) (aa 3))) (aa 1)) (gC (.int 2147483629))) (aa 2))))
def J3(n:Nat)(ds:List D):af (tab (n+1)) fi ds=cn (zx n (b8 [true,true,true] ds++aM (4 - ds.length) .no)):=e9 (by kernel_rfl) (by decide+kernel) rfl ds
def u7(n:Nat):En->Out:=(cq (g1 cu (bw (fx (ae (aa 2) ai)) [1,0,3] (g2 jw (aj (af (tab n) fi) (ae (aa 2) (ae (g2 bx (aa 1) (aa 0)) (ae (aa 3) ai)))) (gC (.int 0))) (ao 0))))
def Ej(n:Nat)(ds:List D):af (tab (n+1)) d5 ds=cn (u7 n (b8 [true,true,true,true] ds++aM (4 - ds.length) .no)):=e9 (by kernel_rfl) (by decide+kernel) rfl ds
def zw(n:Nat):En->Out:=(bj (fw 3 (ft ai))
 (bj (gf (bf 4) (fx (ae (aj (af (tab n) fi) (ae (aa 0) (ae (aa 1) (ae (gC (.int 6)) ai)))) ai)) (pq 3 (ia (ae (aj (af (tab n) d5) (ae (aa 0) (ae (g2 bx (g2 bx (aa 1) (gC (.int 1))) (g2 lg (gC (.int 12)) (aa 4))) (ae (aa 2) (ae (gC (.int 3)) ai))))) (ae (aj (af (tab n) d5) (ae (aa 0) (ae (g2 bx (g2 bx (aa 1) (gC (.int 7))) (g2 lg (gC (.int 12)) (aa 4))) (ae (aa 2) (ae (gC (.int 3)) ai))))) ai)))))
 (fz [3] (cq (ao 3)))))
def Jz(n:Nat)(ds:List D):af (tab (n+1)) jn ds=cn (zw n (b8 [true,true,true] ds++aM (5 - ds.length) .no)):=e9 (by kernel_rfl) (by decide+kernel) rfl ds
def Bp(n:Nat):En->Out:=(bj (fj 2 (g1 cf (aa 1)))
 (bj (gf (bf 3) (fx (ae (g1 fe (aa 0)) ai)) (fz [0] (gf (bf 4) (ba (yz 0)) (t7 (g2 jw (bw (ba (g2 br (aa 4) (gC (.int 0)))) [2] (g2 cj (aa 0) (aa 1)) (ao 0)) (ft ai)) (fj 2 (g1 cf (g2 bx (aa 2) (g1 fh (g2 br (aa 4) (gC (.int 1))))))) jy))))
 (cq (g1 cu (aa 2)))))
def M9(n:Nat)(ds:List D):af (tab (n+1)) jk ds=cn (Bp n (b8 [true,true] ds++aM (5 - ds.length) .no)):=e9 (by kernel_rfl) (by decide+kernel) rfl ds
def oz:Expr:=Ny cw.st
def va(n:Nat):En->Res:=(ia (ae (g1 fe (aa 0)) (ae (ao 0) ai)))
def B5(n:Nat)(d:D):(tab (n+2)).lam oz [] [d]=va n [.pu d]:=by kernel_rfl
def Ec(n:Nat):En->Out:=(bj (fw 1 (ft (ae (ia ai) ai)))
 (bj (fz [0] (gf (bf 2) (ba (yz 0)) (fz [2] (fj 1 (g2 bx (aa 1) (bw (ba (aa 1)) [2] (gC (.bl true)) (g2 bx (aa 0) (ia (ae (ao 1) ai)))))))))
 (cq (s8 (tab (n+1)) (aa 1) (Ac oz [] [])))))
def Ei(n:Nat)(ds:List D):af (tab (n+1)) cw ds=cn (Ec n (b8 [true] ds++aM (3 - ds.length) .no)):=e9 (by kernel_rfl) (by decide+kernel) rfl ds
def Jj(n:Nat):En->Out:=(bj (gf (bf 2) (ba (aj (af (tab n) cw) (ae (aa 1) ai))) (bj (fj 3 (aj (af (tab n) jk) (ae (aa 0) (ae (aa 2) ai))))
 (bj (fj 4 (g1 cu (bw (ba (aa 1)) [3] (g2 cg (aa 0) (aa 1)) (ao 0))))
 (t7 (nh (g2 dh (aa 4) (aa 2)) (g2 dh (aa 4) (aa 1))) (fz [2,4] (cq (ia (ae (ao 2) (ae (ao 4) ai))))) jy))))
 (cq (gC .non)))
def J0(n:Nat)(ds:List D):af (tab (n+1)) dj ds=cn (Jj n (b8 [true,true] ds++aM (5 - ds.length) .no)):=e9 (by kernel_rfl) (by decide+kernel) rfl ds
def E5(n:Nat):En->Out:=(bj (fw 2 (ft ai))
 (bj (fz [1] (fw 3 (ft (ae (ao 1) ai))))
 (bj (fz [] (Yw (g2 dh (aa 3) (ft ai)) (bj (ot 4 (Ni 3))
 (bj (fj 5 (aj (af (tab n) dj) (ae (aa 0) (ae (aa 4) ai))))
 (t7 (g2 me (aa 5) (gC .non)) (fz [4] (pq 2 (ao 4))) (bj (fj 6 (g1 cu (bw (ba (aa 4)) [5] (Ad (g2 cg (aa 0) (g2 br (aa 1) (gC (.int 0)))) (g2 cj (aa 0) (g2 br (aa 1) (gC (.int 1))))) (ao 0))))
 (fz [6] (uy 3 (ft (ae (ao 6) (ae (g2 br (aa 5) (gC (.int 1))) ai)))))))))))
 (fz [2] (cq (ao 2))))))
def Si(n:Nat)(ds:List D):af (tab (n+1)) j3 ds=cn (E5 n (b8 [true,false] ds++aM (7 - ds.length) .no)):=e9 (by kernel_rfl) (by decide+kernel) rfl ds
def U2(n:Nat):En->Out:=(bj (fj 1 (g2 bx (gC (.int 1)) (aj (af (tab n) fi) (ae (aa 0) (ae (gC (.int 0)) (ae (gC (.int 5)) ai))))))
 (bj (fj 2 (aj (af (tab n) jn) (ae (aa 0) (ae (gC (.int 1)) (ae (aa 1) ai)))))
 (bj (fj 3 (g1 fc (aa 1)))
 (bj (fw 4 (g1 fh (aa 2)))
 (bj (fz [4,1] (fj 5 (aj (af (tab n) B0) (ae (ao 4) (ae (ao 1) ai)))))
 (bj (fz [3,2,1] (t7 (Ad (g2 dh (aa 5) (aj (af (tab n) j3) (ae (aa 2) (ae (ao 3) ai)))) (Ad (g2 dh (aa 4) (aa 2)) (g2 dh (aj (af (tab n) qg) (ae (ao 2) (ae (ao 1) (ae (g1 fh (aa 5)) ai)))) (ia (ae (gC (.str "sound")) (ae (gC .non) ai)))))) (cq (gC (.bl false))) jy))
 (bj (gf (bf 6) (ba (aj (af (tab n) cw) (ae (aa 3) ai))) (bj (fz [4,1,6] (fj 7 (aj (af (tab n) jq) (ae (ao 4) (ae (ao 1) (ae (ao 6) ai))))))
 (t7 (Ad (jt (mj (g1 (cy "bool") (aa 7)))) (Ad (g2 dh (aa 7) (g2 me (aj (af (tab n) dj) (ae (aa 2) (ae (aa 6) ai))) (gC .non))) (g2 dh (aa 4) (aa 2)))) (cq (gC (.bl false))) jy)))
 (fz [6,2,1,6] (cq (g2 jw (bw (ba (aa 5)) [2,1] (jt (mj (aj (af (tab n) jq) (ae (ao 1) (ae (ao 2) (ae (ao 0) ai)))))) (ao 0)) (ft ai)))))))))))
def PJ(n:Nat)(ds:List D):af (tab (n+1)) si ds=cn (U2 n (b8 [false] ds++aM (8 - ds.length) .no)):=e9 (by kernel_rfl) (by decide+kernel) rfl ds
end LK
end
section
namespace Pu
open PySem PySem.Spec PyProof.Rows
theorem Jp:∀(l:List α),(∀a∈l,F (f a)=some (if b a then some (f' a)else none))->ri F (l.map f)=some ((l.filter b).map f')
 |[],_=>rfl
 |a::l,h=>by
  rw[aV];unfold ri;rw[h a aN,Jp l λc hc=>h c (aK _ hc),eH];cases b a<;>rfl
def Pt{l:List α}(hr:r U=.ok (l.map f))(hl:l.length<=16777216)(ht:∀a∈l,t (iq ix U (.pu (f a)))=.ok (.bl (b a)))(hg:∀a∈l,g (iq ix U (.pu (f a)))=.ok (f' a)):
  bw r ix t g U=.ok (.lst ((l.filter b).map f')):=by
 unfold bw;rw[hr];dsimp only;rw[aG (by rw[aO];exact hl),Jp (b:=b) (f':=f') l λa ha=>by
  rw[GX (b:=b a) (y:=f' a) (ht a ha) λ_=>hg a ha]]
def gr{l:List α}(hr:r U=.ok (l.map f))(hl:l.length<=16777216)(ht:∀a∈l,t (iq ix U (.pu (f a)))=.ok (.bl (b a))):
  bw r ix t (ao 0) U=.ok (.lst ((l.filter b).map f)):=Pt hr hl ht λa _=>rfl
def kn{l:List α}(hr:r U=.ok (l.map f))(hl:l.length<=16777216)(hg:∀a∈l,g (iq ix U (.pu (f a)))=.ok (f' a)):
  bw r ix (gC (.bl true)) g U=.ok (.lst (l.map f')):=by
 have:=Pt (b:=λ_=>true) (t:=gC (.bl true)) hr hl (λ_ _=>rfl) hg;rwa [List.filter_eq_self.mpr (λ_ _=>rfl)]at this
theorem r9(b:α->Bool):∀l:List α,jh (l.map λa=>D.bl (b a))=some (l.map b)
 |[]=>rfl
 |a::l=>by
  show(jh (l.map λa=>D.bl (b a))).map (b a::·)=_;rw[r9 b l];rfl
def Gj(b:α->Bool)(l:List α):t6 (.lst (l.map λa=>D.bl (b a)))=some (.bl (l.all b)):=by
 unfold t6;dsimp only;rw[r9];show some (D.bl ((l.map b).all id))=_;rw[List.all_map];rfl
def Bi(n:Nat)(d:D):Prop:=∃p,fk d=some p/\dI p=true/\p.depth<=n
theorem Y7{n:Nat}:∀{ds:List D},(∀d∈ds,Bi n d)->∃ps,d8 ds=some ps/\bB ps=true/\bV ps<=n
 |[],_=>⟨[],rfl,rfl,bX _⟩
 |d::r,h=>by
  obtain⟨p,e1,e2,e3⟩:=h d aN;obtain⟨ps,f1,f2,f3⟩:=Y7 (ds:=r) λd hd=>h d (aK _ hd);refine⟨p::ps,by unfold d8;rw[e1,f1],?_,Nat.max_le.mpr ⟨e3,f3⟩⟩;show(dI p && bB ps)=true;rw[e2,f2];rfl
def Dx{n:Nat}{ds:List D}(h:∀d∈ds,Bi n d):Bi (n+1) (.tup ds):=by
 obtain⟨ps,e1,e2,e3⟩:=Y7 h;exact⟨.tuple ps,by unfold fk;rw[e1],e2,show bV ps+1<=n+1 by lia⟩
def L4{n:Nat}{ds:List D}(h:∀d∈ds,Bi n d):Bi (n+1) (.lst ds):=by
 obtain⟨ps,e1,e2,e3⟩:=Y7 h;exact⟨.list ps,by unfold fk;rw[e1],e2,show bV ps+1<=n+1 by lia⟩
def Y8(i:Int):Bi 0 (.int i):=⟨.int i,rfl,rfl,aH _⟩
def uj{n:Nat}{d:D}(h:Bi n d)(hn:n<=63):jw d d=some (.bl true)/\dh d d=some (.bl false):=by
 obtain⟨p,e1,e2,e3⟩:=h;have e:Sq d d=some true:=by rw[Nd e1 e1 e2 (by lia) e2 (by lia),PySem.SeqAt.eqv_refl p e2]
 unfold jw dh;rw[e];exact⟨rfl,rfl⟩
def tI(ns:List Int):D:=.tup (ns.map D.int)
theorem zp:∀ns:List Int,d8 (ns.map D.int)=some (ns.map bY)
 |[]=>rfl
 |n::ns=>by show(match fk (.int n)with|some p=>(match d8 (ns.map D.int)with|some ps=>some (p::ps)|none=>none)|none=>none)=_;rw[zp ns];rfl
theorem xo:∀ns:List Int,bB (ns.map bY)=true
 |[]=>rfl
 |n::ns=>by show(dI (.int n) && bB (ns.map bY))=true;rw[xo ns];rfl
theorem B1:∀ns:List Int,bV (ns.map bY)=0
 |[]=>rfl
 |n::ns=>by
  show max (jE (.int n)) (bV (ns.map bY))=0;rw[B1 ns];rfl
theorem Hc:∀xs ys:List Int,iH (xs.map bY) (ys.map bY)=decide (xs=ys)
 |[],[]=>rfl
 |[],_::_=>rfl
 |_::_,[]=>rfl
 |x::xs,y::ys=>by
  show((x==y) && iH (xs.map bY) (ys.map bY))=_;rw[Hc xs ys]
  by_cases h:x=y
  ·subst h;simp
  ·have:(x==y)=false:=by simpa using h
   rw[this];simp[h]
def V1(xs ys:List Int):Sq (tI xs) (tI ys)=some (decide (xs=ys)):=by
 have t:∀l:List Int,fk (tI l)=some (.tuple (l.map bY)):=λl=>by unfold tI fk;rw[zp]
 have d:∀l:List Int,jE (.tuple (l.map bY))<=63:=λl=>by show bV (l.map bY)+1<=63;rw[B1];decide
 rw[Nd (t xs) (t ys) (xo xs) (d xs) (xo ys) (d ys)];exact congrArg some (Hc xs ys)
def QO(xs ys:List Int):dh (tI xs) (tI ys)=some (.bl (!decide (xs=ys))):=by unfold dh;rw[V1];rfl
def PF(xs ys:List Int):jw (tI xs) (tI ys)=some (.bl (decide (xs=ys))):=by unfold jw;rw[V1];rfl
def Bc(xs:List Int):Bi 1 (tI xs):=Dx λd hd=>by
 obtain⟨i,_,rfl⟩:=List.mem_map.mp hd;exact Y8 i
def GD{xs:List Int}{k:Nat}(h:k<xs.length):br (tI xs) (.int (k:Int))=some (.int (xs.getD k 0)):=by
 show L2.atI (xs.map D.int) (k:Int)=_;refine L2.A2 ?_;rw[bM,bL h,bR,bL h];rfl
end Pu
end
section
namespace LK
open PySem PySem.Spec PyProof.Rows Pu
abbrev oh(ns:List Int):D:=.lst (ns.map D.int)
def Vh(ns:List Int)(k:Int):Int:=if k<ns.length then(ns[k.toNat]?).getD 0 else if ns=[]then 0 else(ns[(k % ns.length).toNat]?).getD 0 * 31+k
theorem D4:∀ns:List Int,d8 (ns.map D.int)=some (ns.map bY)
 |[]=>rfl
 |n::ns=>by show(match fk (.int n)with|some p=>(match d8 (ns.map D.int)with|some ps=>some (p::ps)|none=>none)|none=>none)=_;rw[D4 ns];rfl
theorem jl:∀ns:List Int,bB (ns.map bY)=true
 |[]=>rfl
 |n::ns=>by show(dI (.int n) && bB (ns.map bY))=true;rw[jl ns];rfl
theorem B3:∀ns:List Int,bV (ns.map bY)<=1
 |[]=>by decide
 |n::ns=>by
  show max (jE (.int n)) (bV (ns.map bY))<=1;have:=B3 ns;have h:jE (.int n)<=1:=bX _
  lia
def Lz(ns:List Int):cZ (.list (ns.map bY))=true:=by
 unfold cZ;have h1:dI (.list (ns.map bY))=true:=jl ns;have h2:jE (.list (ns.map bY))<=2:=by
  have:=B3 ns;show bV (ns.map bY)+1<=2
  lia
 rw[h1];simp only[lN,decide_eq_true_eq]
 lia
def V2(ns:List Int):jw (oh ns) (.lst [])=some (.bl (decide (ns=[]))):=by
 unfold jw Sq oh;have e1:fk (.lst (ns.map D.int))=some (.list (ns.map bY)):=by unfold fk;rw[D4]
 have e2:fk (.lst [])=some (.list []):=rfl;rw[e1,e2];dsimp only;rw[Lz,show cZ (.list [])=true from by decide];cases ns<;>rfl
def Wu(ns:List Int)(k:Int)(h0:0<=k)(h1:k<ns.length):br (oh ns) (.int k)=some (.int ((ns[k.toNat]?).getD 0)):=by
 show L2.atI (ns.map D.int) k=_;have hk:k=((k.toNat:Nat):Int):=by lia
 have hl:k.toNat<ns.length:=by lia
 rw[hk];refine(L2.A2 (j:=k.toNat) (v:=D.int ((ns[k.toNat]?).getD 0)) ?_).trans (by rw[<-hk]);rw[bM,bL hl];rfl
def AJ(n:Nat)(ns:List Int)(k:Int)(hk:0<=k):af (tab (n+1)) kj [oh ns,.int k]=.ok (.int (Vh ns k)):=by
 rw[Eh];unfold Vh
 by_cases h1:k<ns.length
 ·have e1:=Wu ns k hk h1;simp[j9,h1,e1]
 ·by_cases h2:ns=[]
  ·subst h2;have e2:=V2 [];have h3:¬k<0:=by lia
   simp[j9,h3,e2]
  ·have hp:0<ns.length:=by cases ns<;>simp_all
   have hm1:0<=k % (ns.length:Int):=oU _ (by lia);have hm2:k % (ns.length:Int)<ns.length:=mZ _ (by lia);have e1:=Wu ns (k % ns.length) hm1 hm2;have e2:=V2 ns;have e3:=Ri k ns.length (by lia);have e4:=λa=>Gd a 31 (.inr (by decide));simp[j9,h1,h2,e1,e2,e3,e4]
def zd(ns:List Int)(k m:Int):Int:=
 let x:=(Vh ns k+7919 * k+1) * 48271 % 2147483647
 (x * x+7 * x+k) % 2147483629 % m
def C9(n:Nat)(ns:List Int)(k m:Int)(hk:0<=k)(hm:0<m):af (tab (n+2)) fi [oh ns,.int k,.int m]=.ok (.int (zd ns k m)):=by
 rw[J3];have e0:=AJ n ns k hk;have e1:=Gd 7919 k (.inl (by decide));have e2:=λa=>Gd a 48271 (.inr (by decide));have e3:=λa=>Ri a 2147483647 (by decide);have e4:=λa=>Ri a 2147483629 (by decide);have e5:=λa=>Ri a m hm;have e6:=λa=>Gd 7 a (.inl (by decide));have e7:∀a:Int,lg (.int (a % 2147483647)) (.int (a % 2147483647))=some (.int (a % 2147483647 * (a % 2147483647))):=λa=>Gd _ _ (.inl (by lia));simp[zx,e0,e1,e2,e3,e4,e5,e6,e7,zd]
def C8(ns:List Int)(k m:Int)(hm:0<m):0<=zd ns k m/\zd ns k m<m:=⟨oU _ (by lia),mZ _ hm⟩
theorem xi{h:Pu.D->Option Pu.D}{f:Nat->Pu.D}:∀(l:List Nat),(∀j∈l,h (.int (0+(j:Int)))=some (f j))->(l.map λ(i:Nat)=>Pu.D.int (0+(i:Int))).filterMap h=l.map f
 |[],_=>rfl
 |a::l,hf=>by
  rw[aV,fF,hf a aN];dsimp only;rw[xi l λj hj=>hf j (aK _ hj),aV]
def l8{h:Pu.D->Option Pu.D}{f:Nat->Pu.D}(n:Nat)(hf:∀j:Nat,j<n->h (.int (0+(j:Int)))=some (f j)):(gz 0 n).filterMap h=(aW n).map f:=
 xi _ λj hj=>hf j (List.mem_range.mp hj)
def Od(n:Nat):(gz 0 n).length=n:=by unfold gz;simp
def N2{n:Nat}{d:Pu.D}(h:d∈gz 0 n):∃j:Nat,j<n/\d=.int (0+(j:Int)):=by
 unfold gz at h;obtain⟨j,hj,e⟩:=List.mem_map.mp h;exact⟨j,List.mem_range.mp hj,e.symm⟩
def Bx{r:En->ResL}{ix:List Nat}{g:En->Res}{U:En}{m:Nat}{f:Nat->Pu.D}(hr:r U=.ok (gz 0 m))(hm:m<=16777216)(hf:∀j:Nat,j<m->g (iq ix U (.pu (.int (0+(j:Int)))))=.ok (f j)):
  bw r ix (gC (.bl true)) g U=.ok (.lst ((aW m).map f)):=by
 let h:Pu.D->Option Pu.D:=λd=>match d with
  |.int k=>some (f k.toNat)
  |_=>none
 have:=Wb (r:=r) (ix:=ix) (t:=gC (.bl true)) (g:=g) (U:=U) (h:=h) hr (by rw[Od];exact hm) λd hd=>by
  obtain⟨j,hj,rfl⟩:=N2 hd;rw[Zw (hf j hj)];show some (some (f j))=some (some (f (0+(j:Int)).toNat));have:(0+(j:Int)).toNat=j:=by lia
  rw[this]
 rw[this,l8 m (f:=f)];intro j hj;show some (f (0+(j:Int)).toNat)=some (f j);have:(0+(j:Int)).toNat=j:=by lia
 rw[this]
def j6(m:Nat):List Int:=(aW m).map λ(i:Nat)=>0+(i:Int)
def Lo(m:Nat):gz 0 m=(j6 m).map Pu.D.int:=by unfold gz j6;rw[dA];rfl
def Tw{m:Nat}{i:Int}(h:i∈j6 m):0<=i/\i<m:=by
 unfold j6 at h;obtain⟨j,hj,rfl⟩:=List.mem_map.mp h;have:=List.mem_range.mp hj
 lia
def iy(cs:List Nat):List Int:=cs.map λ(c:Nat)=>(c:Int)
def Oz(cs:List Nat):tI (iy cs)=.tup (cs.map λ(c:Nat)=>Pu.D.int (c:Int)):=by unfold tI iy;rw[dA];rfl
structure Good(m:Nat)(cs:List Nat):Prop where
 lt:∀c∈cs,c<m
 ris:cs.Pairwise (· <·)
theorem Ym:∀{cs:List Nat}{k m:Nat},(∀c∈cs,k<=c/\c<m)->cs.Pairwise (· <·)->cs.length<=m - k
 |[],_,_,_,_=>bX _
 |a::r,k,m,h,p=>by
  obtain⟨p1,p2⟩:=List.pairwise_cons.mp p;have h1:=h a aN;have:=Ym (cs:=r) (k:=a+1) (m:=m) (λc hc=>⟨p1 c hc,(h c (aK _ hc)).2⟩) p2;rw[aE];lia
def Good.len{m:Nat}{cs:List Nat}(g:Good m cs):cs.length<=m:=by
 have:=Ym (k:=0) (λc hc=>⟨bX _,g.lt c hc⟩) g.ris
 lia
def IH(ns:List Int)(k sh:Int)(j:Nat):Bool:=zd ns (k+(0+(j:Int))) sh==0
def Bu(n:Nat)(ns:List Int)(k m sh:Int)(hk:0<=k)(hm:0<=m)(hm2:m<=1000)(hsh:0<sh):∃cs:List Nat,Good m.toNat cs/\af (tab (n+3)) d5 [oh ns,.int k,.int m,.int sh]=.ok (tI (iy cs)):=by
 rw[Ej];refine⟨(aW m.toNat).filter (IH ns k sh),⟨λc hc=>List.mem_range.mp (List.mem_filter.mp hc).1,?_⟩,?_⟩
 ·exact List.Pairwise.filter _ fE
 have hc:bw (fx (ae (aa 2) ai)) [1,0,3] (g2 jw (aj (af (tab (n+2)) fi) (ae (aa 2) (ae (g2 bx (aa 1) (aa 0)) (ae (aa 3) ai)))) (gC (.int 0))) (ao 0) [.bo (oh ns),.bo (.int k),.bo (.int m),.bo (.int sh)]
   =.ok (.lst (((aW m.toNat).filter (IH ns k sh)).map λ(i:Nat)=>Pu.D.int (0+(i:Int)))):=by
  refine gr (f:=λ(i:Nat)=>Pu.D.int (0+(i:Int))) ((ue _ _ (j':=m) (by simp) (by lia)).trans rfl) (by rw[dN];lia) λj hj=>?_;have e:=C9 n ns (k+(0+(j:Int))) sh (by lia) hsh;unfold IH;generalize (0+(j:Int))=z at e⊢;simp[iq,e]
 rw[Oz];have e0:∀l:List Nat,(l.map λ(i:Nat)=>Pu.D.int (0+(i:Int)))=l.map λ(c:Nat)=>Pu.D.int (c:Int):=λl=>by simp
 rw[e0]at hc;simp -implicitDefEqProofs [u7,hc]
def u9(L R:List Nat):Pu.D:=.tup [tI (iy L),tI (iy R)]
def bb{fn:List Pu.D->Res}{r:En->ResL}{U:En}{ds:List Pu.D}{x:Res}(h1:r U=.ok ds)(h2:fn ds=x):aj fn r U=x:=by
 unfold aj;rw[h1];exact h2
def xl(n:Nat)(i:Int):af (tab (n+1)) ko [.int i]=.ok (.bl true):=by
 rw[Jy];simp[zu]
def S4(m:Int):Pu.D:=.obj gx [("many",.int m)]
def JB(n:Nat)(m i:Int)(h0:0<=i)(h1:i<m):(tab (n+3)).lam gx [("many",.int m)] [.int i]=.ok (.bl true):=by
 rw[Ek (n+1)];have e:=xl n i;simp -implicitDefEqProofs [xa,e,h0,h1]
def Ru(n:Nat)(m i:Int)(h0:0<=i)(h1:i<m):y0 (tab (n+3)) 1 [(aa 0,ao 0)] [.pu (.int i),.bo (S4 m)]=.ok (.bl true):=by
 have e:=JB n m i h0 h1;show aj (λds=>WG ((tab (n+3)).lam gx [("many",.int m)] ds)) (Of [false] [(aa 0,ao 0)]) [.pu (.int i),.bo (S4 m)]=_;refine bb (ds:=[.int i]) ?_ ?_
 ·simp[Of]
 ·show WG ((tab (n+3)).lam gx [("many",.int m)] [.int i])=_;rw[e];rfl
def wx{α:Type}(l:List α):t6 (.lst (l.map λ_=>Pu.D.bl true))=some (.bl true):=by
 rw[Gj (λ_=>true) l];simp
def Mg(n:Nat)(m:Int){cs:List Nat}(h:∀c∈cs,(c:Int)<m)(hl:(cs.length:Int)<=m)(hm:m<=1000):af (tab (n+3)) kh [tI (iy cs),.int 0,.int m,S4 m]=.ok (.bl true):=by
 rw[Eg (n+2),Oz];have hc:bw (ba (aa 0)) [3] (gC (.bl true)) (y0 (tab (n+3)) 1 [(aa 0,ao 0)]) [.bo (.tup (cs.map λ(c:Nat)=>Pu.D.int (c:Int))),.bo (.int 0),.bo (.int m),.bo (S4 m)]=.ok (.lst (cs.map λ_=>Pu.D.bl true)):=
  kn (f:=λ(c:Nat)=>Pu.D.int (c:Int)) (by simp) (by lia) λc hc=>by
   have:=Ru n m (c:Int) (by lia) (h c hc);show y0 (tab (n+3)) 1 [(aa 0,ao 0)] [.pu (.int (c:Int)),.bo (S4 m)]=_;exact this
 have ha:=wx cs;simp -implicitDefEqProofs [u6,hc,ha,hl]
def Tz(n:Nat){cs:List Nat}(hp:cs.Pairwise (· <·))(hl:cs.length<=1000):af (tab (n+1)) mi [tI (iy cs)]=.ok (.bl true):=by
 rw[Gz];have len:(iy cs).length=cs.length:=by unfold iy;simp
 have get:∀j,j<cs.length->(iy cs).getD j 0=((cs.getD j 0:Nat):Int):=λj hj=>by unfold iy;simp[hj]
 have hc:bw (fx (ae (g2 Ln (g1 fe (aa 0)) (gC (.int 1))) ai)) [0] (gC (.bl true)) (g2 mf (g2 br (aa 1) (aa 0)) (g2 br (aa 1) (g2 bx (aa 0) (gC (.int 1))))) [.bo (tI (iy cs))]=.ok (.lst ((aW (cs.length - 1)).map λ_=>Pu.D.bl true)):=by
  refine Bx (m:=cs.length - 1) ?_ (by lia) λj hj=>?_
  ·have:((cs.length:Int) - 1).toNat=cs.length - 1:=by lia
   rw[<-this];exact ue _ _ (j':=(cs.length:Int) - 1) (by simp[tI,len]) (by lia)
  ·have e1:=GD (xs:=iy cs) (k:=j) (by rw[len];lia);have e2:=GD (xs:=iy cs) (k:=j+1) (by rw[len];lia);rw[get j (by lia)]at e1;rw[get (j+1) (by lia)]at e2;have lt:cs.getD j 0<cs.getD (j+1) 0:=by
    have h1:j<cs.length:=by lia
    have h2:j+1<cs.length:=by lia
    have:=List.pairwise_iff_getElem.mp hp j (j+1) h1 h2 (hU j);simpa[h1,h2]using this
   have e3:(0+(j:Int))+1=((j+1:Nat):Int):=by push_cast;lia
   have e4:(0+(j:Int))=((j:Nat):Int):=by lia
   have d:decide (((cs.getD j 0:Nat):Int)<((cs.getD (j+1) 0:Nat):Int))=true:=decide_eq_true (by lia);show(g2 mf (g2 br (aa 1) (aa 0)) (g2 br (aa 1) (g2 bx (aa 0) (gC (.int 1))))) [.pu (.int (0+(j:Int))),.bo (tI (iy cs))]=_;simp only[rf,Z2,YN,aS,aR,bq,g9,SI,e3];rw[e4,e1,e2];simp only[g9,bq,XA,d]
 have ha:=wx (aW (cs.length - 1));simp -implicitDefEqProofs [wy,hc,ha]
def qf(n:Nat){m:Nat}{cs:List Nat}(g:Good m cs)(hm:m<=1000):af (tab (n+4)) d4 [tI (iy cs),.int (m:Int)]=.ok (.bl true):=by
 rw[G7 (n+3)];have e1:=Mg n (m:Int) (cs:=cs) (λc hc=>by have:=g.lt c hc;lia) (by have:=g.len;lia) (by lia);have e2:=Tz (n+2) g.ris (by have:=g.len;lia);have hl:Ac gx ["many"] [1] [.bo (tI (iy cs)),.pu (.int (m:Int))]=.ok (S4 (m:Int)):=rfl;simp -implicitDefEqProofs [wz,hl,e1,e2]
structure GoodB(m:Nat)(b:List Nat×List Nat):Prop where
 l:Good m b.1
 r:Good m b.2
def AL(n:Nat){m:Nat}{b:List Nat×List Nat}(g:GoodB m b)(hm:m<=1000):af (tab (n+5)) mq [u9 b.1 b.2,.int (m:Int)]=.ok (.bl true):=by
 rw[Sg (n+4)];have e1:=qf n g.l hm;have e2:=qf n g.r hm;have e3:af (tab (n+4)) ui [u9 b.1 b.2]=.ok (.bl true):=by
  rw[Sh (n+3)];unfold u9;simp -implicitDefEqProofs [E4]
 unfold u9 at e3⊢;simp -implicitDefEqProofs [E1,e1,e2,e3]
def IQ(bs:List (List Nat×List Nat)):Pu.D:=.lst (bs.map λb=>u9 b.1 b.2)
def jz(n:Nat){m:Nat}{bs:List (List Nat×List Nat)}(g:∀b∈bs,GoodB m b)(h1:1<=m)(h6:m<=6)(hb:bs.length<=10):af (tab (n+6)) cz [IQ bs,.int (m:Int)]=.ok (IQ bs):=by
 rw[Av (n+5)];have e1:=xl (n+4) (m:Int);have hc:bw (ba (aa 0)) [1] (gC (.bl true)) (aj (af (tab (n+5)) mq) (ae (aa 0) (ae (ao 1) ai))) [.pu (IQ bs),.pu (.int (m:Int))]=.ok (.lst (bs.map λ_=>Pu.D.bl true)):=
  kn (f:=λb=>u9 b.1 b.2) (by simp[IQ]) (by lia) λb hb=>by
   have e:=AL n (g b hb) (by lia);show aj (af (tab (n+5)) mq) (ae (aa 0) (ae (ao 1) ai)) [.pu (u9 b.1 b.2),.pu (.int (m:Int))]=_;exact bb (ds:=[u9 b.1 b.2,.int (m:Int)]) (by simp) e
 have ha:=wx bs;have q1:(1:Int)<=m:=by lia
 have q2:(m:Int)<=6:=by lia
 have q3:¬(10:Int)<(bs.length:Int):=by lia
 unfold IQ at hc⊢;simp -implicitDefEqProofs [rh,e1,hc,ha,q1,q2,q3]
theorem D5:∀S:List Nat,d8 (ah S)=some (S.map λ(k:Nat)=>bY (k:Int))
 |[]=>rfl
 |k::S=>by
  show(match fk (.int (k:Int))with|some p=>(match d8 (ah S)with|some ps=>some (p::ps)|none=>none)|none=>none)=_;rw[D5 S];rfl
theorem Kw:∀S:List Nat,bB (S.map λ(k:Nat)=>bY (k:Int))=true
 |[]=>rfl
 |k::S=>by show(dI (.int (k:Int)) && bB (S.map λ(k:Nat)=>bY (k:Int)))=true;rw[Kw S];rfl
theorem Jg(c:Nat):∀S:List Nat,((S.map λ(k:Nat)=>bY (k:Int)).any λy=>dB y (.int (c:Int)))=decide (c∈S)
 |[]=>rfl
 |k::S=>by
  rw[aV,jL,Jg c S];show(((k:Int)==(c:Int))||decide (c∈S))=_
  by_cases h:c=k
  ·subst h;simp
  ·have:((k:Int)==(c:Int))=false:=beq_eq_false_iff_ne.mpr λz=>h (by lia);rw[this];simp[h]
def Cg(c:Nat)(S:List Nat):xy (.int (c:Int)) (.lst (ah S))=some (decide (c∈S))/\xy (.int (c:Int)) (.tup (ah S))=some (decide (c∈S)):=by
 have e:(match d8 (ah S),fk (.int (c:Int))with
  |some ps,some q=>if bB ps && cZ q then some (ps.any λy=>dB y q)else none
  |_,_=>none)=some (decide (c∈S)):=by
  rw[D5];show(if bB (S.map λ(k:Nat)=>bY (k:Int)) && cZ (.int (c:Int))then some ((S.map λ(k:Nat)=>bY (k:Int)).any λy=>dB y (.int (c:Int)))else none)=_;rw[Kw,Jg];rfl
 exact⟨e,e⟩
def A6(c:Nat)(S:List Nat):Ep (.int (c:Int)) (.lst (ah S))=some (.bl (decide (c∈S)))/\kl (.int (c:Int)) (.lst (ah S))=some (.bl (!decide (c∈S)))/\Ep (.int (c:Int)) (.tup (ah S))=some (.bl (decide (c∈S))):=by
 unfold Ep kl;rw[(Cg c S).1,(Cg c S).2];exact⟨rfl,rfl,rfl⟩
def tN(S:List Nat):Pu.D:=.tup (ah S)
def ij(S:List Nat):tI (iy S)=tN S:=Oz S
def sub(cs rs:List Nat):Bool:=cs.all λc=>decide (c∈rs)
def fb{cs rs:List Nat}:sub cs rs=true↔∀c∈cs,c∈rs:=by
 unfold sub;rw[List.all_eq_true];exact⟨λh c hc=>of_decide_eq_true (h c hc),λh c hc=>decide_eq_true (h c hc)⟩
def Ht(n:Nat)(cs rs:List Nat)(hl:cs.length<=1000):af (tab (n+1)) ck [tN cs,.lst (ah rs)]=.ok (.bl (sub cs rs)):=by
 rw[Fg];have hc:bw (ba (aa 0)) [1] (gC (.bl true)) (g2 cg (aa 0) (aa 1)) [.bo (tN cs),.bo (.lst (ah rs))]=.ok (.lst (cs.map λc=>Pu.D.bl (decide (c∈rs)))):=
  kn (f:=λ(c:Nat)=>Pu.D.int (c:Int)) (by simp[tN,ah]) (by lia) λc hc=>by
   have e:=(A6 c rs).1;show(g2 cg (aa 0) (aa 1)) [.pu (.int (c:Int)),.bo (.lst (ah rs))]=_;simp[e]
 have ha:=Gj (λc=>decide (c∈rs)) cs;simp -implicitDefEqProofs [yo,hc,ha,sub]
abbrev Bd:=List Nat×List Nat
def p8(b:Bd):Pu.D:=.tup [tN b.1,tN b.2]
def U6(b:Bd):u9 b.1 b.2=p8 b:=by unfold u9 p8;rw[ij,ij]
def a9(bs:List Bd):Pu.D:=.lst (bs.map p8)
def Mv(bs:List Bd):IQ bs=a9 bs:=by
 unfold IQ a9
 congr 1
 exact fU λb _=>U6 b
def i5:List Bd->Nat->List Nat->Option Nat
 |[],_,_=>none
 |b::r,i,rs=>if sub b.1 rs && !sub b.2 rs then some i else i5 r (i+1) rs
def nD:Option Nat->Pu.D
 |some i=>.int (i:Int)
 |none=>.non
def CB(n:Nat):En->Out:=(t7 (nh (mj (aj (af (tab n) ck) (ae (g2 br (aa 3) (gC (.int 0))) (ae (aa 1) ai)))) (jt (mj (aj (af (tab n) ck) (ae (g2 br (aa 3) (gC (.int 1))) (ae (aa 1) ai)))))) (fz [2] (cq (ao 2))) jy)
def KQ(n:Nat){b:Bd}{rs:List Nat}{i:Nat}{v0:Sl}(h1:b.1.length<=1000)(h2:b.2.length<=1000):CB (n+1) [v0,.bo (.lst (ah rs)),.pu (.int (i:Int)),.pu (p8 b)]=if sub b.1 rs && !sub b.2 rs then .rt (.int (i:Int))else .nx [v0,.bo (.lst (ah rs)),.pu (.int (i:Int)),.pu (p8 b)]:=by
 have e1:=Ht n b.1 rs h1;have e2:=Ht n b.2 rs h2;have c1:aj (af (tab (n+1)) ck) (ae (g2 br (aa 3) (gC (.int 0))) (ae (aa 1) ai)) [v0,.bo (.lst (ah rs)),.pu (.int (i:Int)),.pu (p8 b)]=.ok (.bl (sub b.1 rs)):=bb (ds:=[tN b.1,.lst (ah rs)]) (by simp[p8]) e1;have c2:aj (af (tab (n+1)) ck) (ae (g2 br (aa 3) (gC (.int 1))) (ae (aa 1) ai)) [v0,.bo (.lst (ah rs)),.pu (.int (i:Int)),.pu (p8 b)]=.ok (.bl (sub b.2 rs)):=bb (ds:=[tN b.2,.lst (ah rs)]) (by simp[p8]) e2;unfold CB;rw[Iu,Rg,Mj,c1,Rj,Mj,c2];cases sub b.1 rs<;>cases sub b.2 rs<;>simp
def CA(n:Nat){rs:List Nat}{v0:Sl}:∀(bs:List Bd)(i:Nat)(v2 v3:Sl),(∀b∈bs,b.1.length<=1000/\b.2.length<=1000)->
  (∃j,i5 bs i rs=some j/\turns (kr [2,3]) (CB (n+1)) (je i (bs.map p8)) [v0,.bo (.lst (ah rs)),v2,v3]=.rt (.int (j:Int)))\/(i5 bs i rs=none/\∃w2 w3,turns (kr [2,3]) (CB (n+1)) (je i (bs.map p8)) [v0,.bo (.lst (ah rs)),v2,v3]=.nx [v0,.bo (.lst (ah rs)),w2,w3]):=by
 intro bs;induction bs with
 |nil=>intro i v2 v3 _;exact .inr ⟨rfl,v2,v3,rfl⟩
 |cons b bs ih=>
  intro i v2 v3 h;obtain⟨h1,h2⟩:=h b aN;rw[aV,je,di (δ1:=[v0,.bo (.lst (ah rs)),.pu (.int (i:Int)),.pu (p8 b)]) rfl,KQ n h1 h2];unfold i5
  by_cases hb:(sub b.1 rs && !sub b.2 rs)=true
  ·rw[aG hb,aG hb];exact .inl ⟨i,rfl,rfl⟩
  ·rw[aJ hb,aJ hb];exact ih (i+1) _ _ λc hc=>h c (aK _ hc)
def Qm(n:Nat){bs:List Bd}{rs:List Nat}(h:∀b∈bs,b.1.length<=1000/\b.2.length<=1000):af (tab (n+2)) gd [a9 bs,.lst (ah rs)]=.ok (nD (i5 bs 0 rs)):=by
 rw[J4 (n+1)];have hs0:gf (kr [2,3]) (Cd (yz 0)) (CB (n+1)) [.bo (a9 bs),.bo (.lst (ah rs)),.no,.no]=turns (kr [2,3]) (CB (n+1)) (je 0 (bs.map p8)) [.bo (a9 bs),.bo (.lst (ah rs)),.no,.no]:=ig (by simp[RA,Cd,a9]);unfold CB at hs0;rcases CA n bs 0 .no .no h (v0:=.bo (a9 bs)) (rs:=rs)with ⟨j,e,t⟩|⟨e,w2,w3,t⟩
 ·unfold CB at t;rw[t]at hs0;rw[e];simp -implicitDefEqProofs [rq,hs0,nD]
 ·unfold CB at t;rw[t]at hs0;rw[e];simp -implicitDefEqProofs [rq,hs0,nD]
inductive Run(bs:List Bd)(wt:List Nat):List Nat->List Nat->List Nat->Prop
 |stop {rs:List Nat} (h:i5 bs 0 rs=none\/sub wt rs=true):Run bs wt rs [] rs
 |step {rs ss rs':List Nat} {i:Nat} {b:Bd} (h1:i5 bs 0 rs=some i) (h2:sub wt rs=false) (h3:bs[i]?=some b) (h4:Run bs wt (rs++b.2) ss rs'):Run bs wt rs (i::ss) rs'
theorem qq:∀{bs:List Bd}{i j:Nat}{rs:List Nat},i5 bs i rs=some j->∃b,i<=j/\bs[j - i]?=some b/\sub b.1 rs=true/\sub b.2 rs=false
 |[],_,_,_,h=>by cases h
 |b::r,i,j,rs,h=>by
  unfold i5 at h
  by_cases hb:(sub b.1 rs && !sub b.2 rs)=true
  ·rw[aG hb]at h;cases h;rw[aF]at hb;exact⟨b,aH _,by simp,hb.1,by simpa using hb.2⟩
  ·rw[aJ hb]at h;obtain⟨c,h1,h2,h3⟩:=qq h;exact⟨c,by lia,by rw[show j - i=(j - (i+1))+1 by lia];simpa using h2,h3⟩
theorem Da:∀{bs:List Bd}{i:Nat}{rs:List Nat},i5 bs i rs=none->∀b∈bs,sub b.1 rs=true->sub b.2 rs=true
 |[],_,_,_,b,hb,_=>by simp at hb
 |c::r,i,rs,h,b,hb,h1=>by
  unfold i5 at h
  by_cases hc:(sub c.1 rs && !sub c.2 rs)=true
  ·rw[aG hc]at h;cases h
  ·rw[aJ hc]at h;rcases List.mem_cons.mp hb with rfl|hb
   ·rw[h1,lN]at hc;simpa using hc
   ·exact Da h b hb h1
def Me(bs:List Bd)(rs:List Nat):Nat:=(bs.filter λb=> !sub b.2 rs).length
def FG{cs rs ts:List Nat}(h:sub cs rs=true):sub cs (rs++ts)=true:=fb.mpr λc hc=>bW _ (fb.mp h c hc)
def Zj(rs ts:List Nat):sub ts (rs++ts)=true:=fb.mpr λc hc=>bT _ hc
theorem o8{α:Type}{p q:α->Bool}:∀{l:List α}{a:α},(∀x,q x=true->p x=true)->a∈l->p a=true->q a=false->(l.filter q).length<(l.filter p).length
 |[],_,_,h,_,_=>by simp at h
 |x::r,a,hpq,h,h1,h2=>by
  have le:∀l:List α,(l.filter q).length<=(l.filter p).length:=λl=>by
   induction l with
   |nil=>exact aH _
   |cons y r ih=>
    rw[eH,eH];cases e:q y with
    |true=>rw[hpq y e];simp;exact ih
    |false=>
     cases p y
     ·exact ih
     ·simp;lia
  rw[eH,eH];rcases List.mem_cons.mp h with rfl|h
  ·rw[h1,h2];have:=le r;simp;lia
  ·have:=o8 hpq h h1 h2;cases e:q x with
   |true=>rw[hpq x e];simp;exact this
   |false=>
    cases p x
    ·exact this
    ·simp;lia
def Q9{bs:List Bd}{rs:List Nat}{b:Bd}(hb:b∈bs)(h:sub b.2 rs=false):Me bs (rs++b.2)<Me bs rs:=by
 refine o8 (a:=b) (λx hx=>?_) hb (by rw[h];rfl) (by rw[Zj];rfl);cases e:sub x.2 rs with
 |false=>rfl
 |true=>rw[FG e]at hx;cases hx
def OS(n:Nat):En->Res:=(nh (g2 jf (aa 5) (gC .non)) (jt (mj (aj (af (tab n) ck) (ae (aa 2) (ae (aa 3) ai))))))
def HE(n:Nat):En->Out:=(bj (fz [5] (pq 4 (ao 5)))
 (bj (uy 3 (g2 br (g2 br (aa 0) (aa 5)) (gC (.int 1))))
 (fj 5 (aj (af (tab n) gd) (ae (aa 0) (ae (aa 3) ai))))))
section
variable{bs:List Bd}{wt:List Nat}{v1:Sl}
def mr(a b:List Nat):ah (a++b)=ah a++ah b:=dD
def gp(a:List Nat):(ah a).length=a.length:=aO ..
def QV{i:Nat}{b:Bd}(h:bs[i]?=some b):br (a9 bs) (.int (i:Int))=some (p8 b):=by
 show L2.atI (bs.map p8) (i:Int)=_;refine L2.A2 ?_;rw[bM,h];rfl
def Iy(n:Nat)(hw:wt.length<=1000)(rs st:List Nat)(o:Option Nat):OS (n+1) [.bo (a9 bs),v1,.bo (tN wt),.ow (ah rs),.ow (ah st),.pu (nD o)]=.ok (.bl (o.isSome && !sub wt rs)):=by
 have c1:aj (af (tab (n+1)) ck) (ae (aa 2) (ae (aa 3) ai)) [.bo (a9 bs),v1,.bo (tN wt),.ow (ah rs),.ow (ah st),.pu (nD o)]=.ok (.bl (sub wt rs)):=bb (ds:=[tN wt,.lst (ah rs)]) (by simp) (Ht n wt rs hw);unfold OS;rw[Rg,Rj,Mj,c1];cases o with
 |none=>simp[nD,Co]
 |some i=>cases sub wt rs<;>simp[nD,Co]
def OT(n:Nat)(hg:∀b∈bs,b.1.length<=10/\b.2.length<=10){rs st:List Nat}{i:Nat}{b:Bd}(h3:bs[i]?=some b)(hr:rs.length<=1000)(hs:st.length<=1000):
  HE (n+2) [.bo (a9 bs),v1,.bo (tN wt),.ow (ah rs),.ow (ah st),.pu (.int (i:Int))]=.nx [.bo (a9 bs),v1,.bo (tN wt),.ow (ah (rs++b.2)),.ow (ah (st++[i])),.pu (nD (i5 bs 0 (rs++b.2)))]:=by
 have hb:=(hg b (bF h3)).2;have s1:fz [5] (pq 4 (ao 5)) [.bo (a9 bs),v1,.bo (tN wt),.ow (ah rs),.ow (ah st),.pu (.int (i:Int))]=.nx [.bo (a9 bs),v1,.bo (tN wt),.ow (ah rs),.ow (ah (st++[i])),.pu (.int (i:Int))]:=by
  have:st.length<16777216:=by lia
  simp[this,mr,ah]
 have s2:uy 3 (g2 br (g2 br (aa 0) (aa 5)) (gC (.int 1))) [.bo (a9 bs),v1,.bo (tN wt),.ow (ah rs),.ow (ah (st++[i])),.pu (.int (i:Int))]=.nx [.bo (a9 bs),v1,.bo (tN wt),.ow (ah (rs++b.2)),.ow (ah (st++[i])),.pu (.int (i:Int))]:=by
  have e:=QV h3;have:(ah rs).length+(ah b.2).length<=16777216:=by rw[gp,gp];lia
  simp[e,p8,tN,this,mr]
 have s3:aj (af (tab (n+2)) gd) (ae (aa 0) (ae (aa 3) ai)) [.bo (a9 bs),v1,.bo (tN wt),.ow (ah (rs++b.2)),.ow (ah (st++[i])),.pu (.int (i:Int))]=.ok (nD (i5 bs 0 (rs++b.2))):=
  bb (ds:=[a9 bs,.lst (ah (rs++b.2))]) (by simp) (Qm n λc hc=>by have:=hg c hc;lia)
 unfold HE;rw[bz,s1];dsimp only;rw[bz,s2];dsimp only;rw[iw,s3];rfl
def GR(n:Nat)(hg:∀b∈bs,b.1.length<=10/\b.2.length<=10)(hw:wt.length<=1000):∀(k:Nat)(rs st:List Nat)(fuel:Nat),Me bs rs<=k->k<fuel->rs.length+10 * k<=1000->st.length+k<=1000->
  ∃ss rs' o,Run bs wt rs ss rs'/\jb (OS (n+2)) (HE (n+2)) fuel [.bo (a9 bs),v1,.bo (tN wt),.ow (ah rs),.ow (ah st),.pu (nD (i5 bs 0 rs))]=.nx [.bo (a9 bs),v1,.bo (tN wt),.ow (ah rs'),.ow (ah (st++ss)),.pu o]:=by
 intro k;induction k with
 |zero=>
  intro rs st fuel ht hf hr hs;obtain⟨f,rfl⟩:∃f,fuel=f+1:=⟨fuel - 1,by lia⟩;have hn:i5 bs 0 rs=none:=by
   cases e:i5 bs 0 rs with
   |none=>rfl
   |some i=>
    obtain⟨b,_,h2,_,h4⟩:=qq e;have:=Q9 (bF h2) h4
    lia
  refine⟨[],rs,nD (i5 bs 0 rs),.stop (.inl hn),?_⟩;rw[cA];unfold jb;rw[Iy (n+1) hw,hn];rfl
 |succ k ih=>
  intro rs st fuel ht hf hr hs;obtain⟨f,rfl⟩:∃f,fuel=f+1:=⟨fuel - 1,by lia⟩;cases e:i5 bs 0 rs with
  |none=>
   refine⟨[],rs,nD none,.stop (.inl e),?_⟩;rw[cA];unfold jb;rw[Iy (n+1) hw];rfl
  |some i=>
   cases hsub:sub wt rs with
   |true=>
    refine⟨[],rs,nD (some i),.stop (.inr hsub),?_⟩;rw[cA];unfold jb;rw[Iy (n+1) hw,hsub];rfl
   |false=>
    obtain⟨b,_,h2,h3,h4⟩:=qq e;have h2':bs[i]?=some b:=by simpa using h2
    have lt:=Q9 (bF h2) h4;have hb:=(hg b (bF h2)).2;obtain⟨ss,rs',o,R,w⟩:=ih (rs++b.2) (st++[i]) f (by lia) (by lia) (by rw[aZ];lia) (by rw[aZ];simp;lia);refine⟨i::ss,rs',o,.step e hsub h2' R,?_⟩;unfold jb;rw[Iy (n+1) hw,hsub];show(match HE (n+2) [.bo (a9 bs),v1,.bo (tN wt),.ow (ah rs),.ow (ah st),.pu (.int (i:Int))]with
     |.nx δ'=>jb (OS (n+2)) (HE (n+2)) f δ'
     |.ct δ'=>jb (OS (n+2)) (HE (n+2)) f δ'
     |.bk δ'=>.nx δ'
     |o=>o)=_
    rw[OT n hg h2' (by lia) (by lia)];dsimp only;rw[w,dM];rfl
def Q8(rs:List Nat):Me bs rs<=bs.length:=iK _ _
def Ul(n:Nat)(hg:∀b∈bs,b.1.length<=10/\b.2.length<=10)(hw:wt.length<=1000)(hb:bs.length<=80)(cs:List Nat)(hc:cs.length<=100):
  ∃ss rs',Run bs wt cs ss rs'/\af (tab (n+3)) sj [a9 bs,tN cs,tN wt]=.ok (.tup [.lst (ah ss),.lst (ah rs')]):=by
 obtain⟨ss,rs',o,R,w⟩:=GR n hg hw (v1:=.bo (tN cs)) bs.length cs [] Ge (Q8 cs) (by unfold Ge;lia) (by lia) (by simp;lia);refine⟨ss,rs',R,?_⟩;rw[Vv (n+2)];have hwh:Yw (OS (n+2)) (HE (n+2)) [.bo (a9 bs),.bo (tN cs),.bo (tN wt),.ow (ah cs),.ow [],.pu (nD (i5 bs 0 cs))]=.nx [.bo (a9 bs),.bo (tN cs),.bo (tN wt),.ow (ah rs'),.ow (ah ss),.pu o]:=by
  unfold Yw;rw[fH]at w;exact w
 have c0:aj (af (tab (n+2)) gd) (ae (aa 0) (ae (aa 3) ai)) [.bo (a9 bs),.bo (tN cs),.bo (tN wt),.ow (ah cs),.ow [],.no]=.ok (nD (i5 bs 0 cs)):=
  bb (ds:=[a9 bs,.lst (ah cs)]) (by simp) (Qm n λc hc=>by have:=hg c hc;lia)
 have l0:fh (tN cs)=some (.lst (ah cs)):=rfl;unfold OS HE at hwh;unfold Jl;simp only[aE,dC,uw,ou,aM,nN,nO,lF,fH];rw[bz,Pa];simp only[Et,Z2,aS,aR,bq,l0,g9,bp,dZ,eU];rw[bz,Pa];simp only[Z3,O9,dC,bX,if_true,bp,dZ,eU];rw[bz,iw];rw[show aj (af (tab (n+2)) gd) (ae (aa 0) (ae (aa 3) ai)) [.bo (a9 bs),.bo (tN cs),.bo (tN wt),.ow (ah cs),.ow [],.no]=.ok (nD (i5 bs 0 cs))from c0];simp only[bp,dZ,eU];rw[bz,b9,hwh];simp
end
theorem B8:∀(ns:List Int)(S:List Nat),Am ns->riseF 0 S->riseF 0 (ns.foldl (λS n=>k9 n.toNat S) S)
 |[],_,_,h=>h
 |n::ns,S,hs,h=>by
  have:=hs n aN;exact B8 ns _ (λm hm=>hs m (aK _ hm)) (y8 (by lia) (bX _) h)
theorem Fi{x:Nat}:∀(ns:List Int)(S:List Nat),x∈ns.foldl (λS n=>k9 n.toNat S) S↔x∈S\/x∈ns.map Int.toNat
 |[],_=>by simp
 |n::ns,S=>by
  rw[fS,Fi ns,K3,aV,dU];constructor
  ·rintro ((h|h)|h)
   ·exact .inr (.inl h)
   ·exact .inl h
   ·exact .inr (.inr h)
  ·rintro (h|h|h)
   ·exact .inl (.inr h)
   ·exact .inl (.inl h)
   ·exact .inr h
def lb(S:List Nat):List Int:=S.map λ(k:Nat)=>(k:Int)
theorem Ci:∀S:List Nat,tf (ah S)=some (lb S)
 |[]=>rfl
 |k::S=>by
  show(tf (ah S)).map ((k:Int)::·)=_;rw[Ci S];rfl
def Ja(S:List Nat):List Nat:=wc (lb S)
def qp(S:List Nat):Prop:=∀c∈S,c<6
def Dw{S:List Nat}(h:qp S):Am (lb S):=λn hn=>by
 obtain⟨c,hc,rfl⟩:=List.mem_map.mp hn;have:=h c hc
 lia
def L3{S:List Nat}(h:qp S):q9 (lb S)=true:=List.all_eq_true.mpr λn hn=>by
 have:=Dw h n hn;simp;lia
def Mh{S:List Nat}(h:qp S):riseF 0 (Ja S):=B8 _ _ (Dw h) trivial
def xt{S:List Nat}{x:Nat}:x∈Ja S↔x∈S:=by
 unfold Ja wc;rw[Fi];unfold lb;rw[dA];simp
def Z1{S:List Nat}(h:qp S):qp (Ja S):=λc hc=>h c (xt.mp hc)
def Rf{S:List Nat}(h:qp S):(Ja S).length<=6:=by
 have:=(Mh h).len (by lia)
 lia
def Oh{S:List Nat}(h:qp S):Lv (.lst (ah S))=some (Ja S)/\Lv (tN S)=some (Ja S):=by
 have e:((tf (ah S)).bind λns=>if q9 ns then some (wc ns)else none)=some (Ja S):=by
  rw[Ci];show(if q9 (lb S)then some (wc (lb S))else none)=_;rw[aG (L3 h)];rfl
 exact⟨e,e⟩
def we{S:List Nat}(h:qp S):cf (.lst (ah S))=some (.lst (ah (Ja S)))/\cf (tN S)=some (.lst (ah (Ja S))):=by
 obtain⟨e1,e2⟩:=Oh h;have a1:j5 (.lst (ah S))=some (.lst (ah (Ja S))):=by unfold j5;rw[e1];rfl
 have a2:j5 (tN S)=some (.lst (ah (Ja S))):=by unfold j5;rw[e2];rfl
 unfold cf;rw[a1,a2];exact⟨rfl,rfl⟩
def BP(cs:List Nat):(ah cs).isEmpty=cs.isEmpty:=by cases cs<;>rfl
def T5(cs:List Nat):AQ (ah cs):=NT λd hd=>by
 obtain⟨c,_,rfl⟩:=List.mem_map.mp hd;exact FO _
def F0(cs rs:List Nat):List Nat:=cs.filter λc=> !decide (c∈rs)
def DN(cs rs:List Nat):(F0 cs rs).isEmpty=sub cs rs:=by
 unfold F0 sub;induction cs with
 |nil=>rfl
 |cons c cs ih=>
  rw[eH,cS,<-ih]
  by_cases h:c∈rs
  ·rw[decide_eq_true h];simp
  ·rw[decide_eq_false h];simp
def Vn{g:En->Res}{U:En}{cs rs:List Nat}{i:Nat}{s:Sl}(hg:g U=.ok (tN cs))(hs:U[i]?=some s)(h1:∀d,aa 1 [d,s]=.ok (.lst (ah rs)))(hl:cs.length<=1000):
  bw (ba g) [i] (g2 cj (aa 0) (aa 1)) (ao 0) U=.ok (.lst (ah (F0 cs rs))):=by
 refine gr (f:=λ(c:Nat)=>Pu.D.int (c:Int)) (by rw[D6,hg];rfl) (by lia) λc hc=>?_;have e:=(A6 c rs).2.1;have ec:iq [i] U (.pu (.int (c:Int)))=[.pu (.int (c:Int)),s]:=by
  unfold iq;simp[hs]
 rw[ec,rf,h1];simp[e]
def DO(cs rs:List Nat):jw (.lst (ah (F0 cs rs))) (.lst [])=some (.bl (sub cs rs))/\dh (.lst (ah (F0 cs rs))) (.lst [])=some (.bl (!sub cs rs)):=by
 have h:=P1 (T5 (F0 cs rs));rw[BP,DN]at h;exact h
def SZ(n:Nat):En->Out:=(t7 (g2 jw (bw (ba (g2 br (aa 4) (gC (.int 0)))) [2] (g2 cj (aa 0) (aa 1)) (ao 0)) (ft ai)) (fj 2 (g1 cf (g2 bx (aa 2) (g1 fh (g2 br (aa 4) (gC (.int 1))))))) jy)
def Ik(S:List Nat)(b:Bd):List Nat:=if sub b.1 S then Ja (S++b.2)else S
def NQ(n:Nat){S:List Nat}{b:Bd}{v0 v1 v3:Sl}(hS:qp S)(hl:S.length<=100)(h1:b.1.length<=100)(h2:b.2.length<=100)(h3:qp b.2):SZ n [v0,v1,.pu (.lst (ah S)),v3,.pu (p8 b)]=.nx [v0,v1,.pu (.lst (ah (Ik S b))),v3,.pu (p8 b)]:=by
 have c:=Vn (g:=g2 br (aa 4) (gC (.int 0))) (U:=[v0,v1,.pu (.lst (ah S)),v3,.pu (p8 b)]) (cs:=b.1) (rs:=S) (i:=2) (s:=.pu (.lst (ah S))) (by simp[p8]) rfl (λd=>rfl) (by lia);have e:=(DO b.1 S).1;have hap:qp (S++b.2):=λc hc=>(List.mem_append.mp hc).elim (hS c) (h3 c);have so:=(we hap).1;have ad:bx (.lst (ah S)) (.lst (ah b.2))=some (.lst (ah (S++b.2))):=by
  show(if(ah S).length+(ah b.2).length<=aQ then some (Pu.D.lst (ah S++ah b.2))else none)=_;rw[aG (by rw[gp,gp,cD];lia),mr]
 have li:fh (tN b.2)=some (.lst (ah b.2)):=rfl;unfold SZ Ik;rw[Iu,rf,c];simp only[Z3,O9,dC,bX,if_true,bq,e,g9,bp];cases hb:sub b.1 S with
 |true=>simp[p8,li,ad,so]
 |false=>simp
def NP{S:List Nat}{b:Bd}(hS:qp S)(h3:qp b.2)(hl:S.length<=6):qp (Ik S b)/\(Ik S b).length<=6:=by
 have hap:qp (S++b.2):=λc hc=>(List.mem_append.mp hc).elim (hS c) (h3 c);unfold Ik;split
 ·exact⟨Z1 hap,Rf hap⟩
 ·exact⟨hS,hl⟩
def SW(n:Nat){v0 v1 v3:Sl}:∀(bs:List Bd)(S:List Nat)(v4:Sl),(∀b∈bs,b.1.length<=100/\b.2.length<=100/\qp b.2)->qp S->S.length<=6->
  (qp (bs.foldl Ik S)/\(bs.foldl Ik S).length<=6)/\∃w4,turns (bf 4) (SZ n) (bs.map p8) [v0,v1,.pu (.lst (ah S)),v3,v4]=.nx [v0,v1,.pu (.lst (ah (bs.foldl Ik S))),v3,w4]:=by
 intro bs;induction bs with
 |nil=>intro S v4 _ h1 h2;exact⟨⟨h1,h2⟩,v4,rfl⟩
 |cons b bs ih=>
  intro S v4 h h1 h2;obtain⟨q1,q2,q3⟩:=h b aN;rw[aV,di (δ1:=[v0,v1,.pu (.lst (ah S)),v3,.pu (p8 b)]) rfl,NQ n h1 (by lia) q1 q2 q3,fS];obtain⟨z1,z2⟩:=NP h1 q3 h2;exact ih (Ik S b) _ (λc hc=>h c (aK _ hc)) z1 z2
def SX(n:Nat):En->Out:=fz [0] (gf (bf 4) (ba (yz 0)) (SZ n))
def FL(bs:List Bd):Nat->List Nat->List Nat
 |0,S=>S
 |k+1,S=>FL bs k (bs.foldl Ik S)
def NO(n:Nat){bs:List Bd}{v1:Sl}(h:∀b∈bs,b.1.length<=100/\b.2.length<=100/\qp b.2):∀(l:List Int)(S:List Nat)(v3 v4:Sl),qp S->S.length<=6->
  qp (FL bs l.length S)/\(FL bs l.length S).length<=6/\∃w3 w4,turns (bf 3) (SX n) (l.map Pu.D.int) [.bo (a9 bs),v1,.pu (.lst (ah S)),v3,v4]=.nx [.bo (a9 bs),v1,.pu (.lst (ah (FL bs l.length S))),w3,w4]:=by
 intro l;induction l with
 |nil=>intro S v3 v4 h1 h2;exact⟨h1,h2,v3,v4,rfl⟩
 |cons i l ih=>
  intro S v3 v4 h1 h2;obtain⟨⟨z1,z2⟩,w4,t⟩:=SW n (v0:=.bo (a9 bs)) (v1:=v1) (v3:=.pu (.int i)) bs S v4 h h1 h2;have hs0:SX n [.bo (a9 bs),v1,.pu (.lst (ah S)),.pu (.int i),v4]=.nx [.bo (a9 bs),v1,.pu (.lst (ah (bs.foldl Ik S))),.pu (.int i),w4]:=by
   unfold SX;simp only[mn,b9,ik,aS];rw[ig (ds:=bs.map p8) (by simp[a9])];exact t
  rw[aV,di (δ1:=[.bo (a9 bs),v1,.pu (.lst (ah S)),.pu (.int i),v4]) rfl,hs0];exact ih (bs.foldl Ik S) _ _ z1 z2
def i6(bs:List Bd)(cs:List Nat):List Nat:=FL bs bs.length (Ja cs)
def FK(n:Nat){bs:List Bd}{cs:List Nat}(h:∀b∈bs,b.1.length<=100/\b.2.length<=100/\qp b.2)(hb:bs.length<=1000)(hc:qp cs):
  (qp (i6 bs cs)/\(i6 bs cs).length<=6)/\af (tab (n+1)) jk [a9 bs,tN cs]=.ok (tN (i6 bs cs)):=by
 obtain⟨z1,z2,w3,w4,t⟩:=NO n (v1:=.bo (tN cs)) h (j6 bs.length) (Ja cs) .no .no (Z1 hc) (Rf hc);have rl:(j6 bs.length).length=bs.length:=by unfold j6;simp
 rw[rl]at z1 z2 t;refine⟨⟨z1,z2⟩,?_⟩;rw[M9];have so:=(we hc).2;have hs0:gf (bf 3) (fx (ae (g1 fe (aa 0)) ai)) (SX n) [.bo (a9 bs),.bo (tN cs),.pu (.lst (ah (Ja cs))),.no,.no]=.nx [.bo (a9 bs),.bo (tN cs),.pu (.lst (ah (i6 bs cs))),w3,w4]:=by
  rw[ig (ds:=(j6 bs.length).map Pu.D.int)]
  ·exact t
  ·rw[<-Lo];have:((bs.length:Int)).toNat=bs.length:=by lia
   rw[show gz 0 bs.length=gz 0 ((bs.length:Int)).toNat by rw[this]];exact ue _ _ (j':=(bs.length:Int)) (by simp[a9]) (by lia)
 unfold SX SZ at hs0;unfold Bp;simp only[aE,dC,uw,ou,aM,nN,nO,lF,fH];rw[bz,iw];simp only[Et,Z2,aS,aR,bq,so,g9,bp,dZ,eU];rw[bz,hs0];simp[tN]
def QS(n:Nat):En->Out:=(pq 3 (ia (ae (aj (af (tab n) d5) (ae (aa 0) (ae (g2 bx (g2 bx (aa 1) (gC (.int 1))) (g2 lg (gC (.int 12)) (aa 4))) (ae (aa 2) (ae (gC (.int 3)) ai))))) (ae (aj (af (tab n) d5) (ae (aa 0) (ae (g2 bx (g2 bx (aa 1) (gC (.int 7))) (g2 lg (gC (.int 12)) (aa 4))) (ae (aa 2) (ae (gC (.int 3)) ai))))) ai))))
def CO(n:Nat)(ns:List Int)(k:Int)(hk:0<=k)(m:Nat)(hm:m<=6):∀(l:List Int)(v4:Sl)(bs:List Bd),(∀i∈l,0<=i/\i<1000)->(∀b∈bs,GoodB m b)->bs.length+l.length<=1000->
  ∃bs':List Bd,bs'.length=bs.length+l.length/\(∀b∈bs',GoodB m b)/\∃w4,turns (bf 4) (QS (n+3)) (l.map Pu.D.int) [.bo (oh ns),.bo (.int k),.bo (.int (m:Int)),.ow (bs.map p8),v4]=.nx [.bo (oh ns),.bo (.int k),.bo (.int (m:Int)),.ow (bs'.map p8),w4]:=by
 intro l;induction l with
 |nil=>intro v4 bs _ h _;exact⟨bs,by simp,h,v4,rfl⟩
 |cons i l ih=>
  intro v4 bs hl h hz;rw[aE]at hz;obtain⟨i0,i1⟩:=hl i aN;obtain⟨c1,g1,e1⟩:=Bu n ns (k+1+12 * i) (m:Int) 3 (by lia) (by lia) (by lia) (by decide);obtain⟨c2,g2,e2⟩:=Bu n ns (k+7+12 * i) (m:Int) 3 (by lia) (by lia) (by lia) (by decide);rw[show(m:Int).toNat=m by lia]at g1 g2;rw[ij]at e1 e2;have em:=Gd 12 i (.inl (by decide));have k1:aj (af (tab (n+3)) d5) (ae (aa 0) (ae (Pu.g2 bx (Pu.g2 bx (aa 1) (gC (.int 1))) (Pu.g2 lg (gC (.int 12)) (aa 4))) (ae (aa 2) (ae (gC (.int 3)) ai)))) [.bo (oh ns),.bo (.int k),.bo (.int (m:Int)),.ow (bs.map p8),.pu (.int i)]=.ok (tN c1):=
   bb (ds:=[oh ns,.int (k+1+12 * i),.int (m:Int),.int 3]) (by simp[em]) e1
  have k2:aj (af (tab (n+3)) d5) (ae (aa 0) (ae (Pu.g2 bx (Pu.g2 bx (aa 1) (gC (.int 7))) (Pu.g2 lg (gC (.int 12)) (aa 4))) (ae (aa 2) (ae (gC (.int 3)) ai)))) [.bo (oh ns),.bo (.int k),.bo (.int (m:Int)),.ow (bs.map p8),.pu (.int i)]=.ok (tN c2):=
   bb (ds:=[oh ns,.int (k+7+12 * i),.int (m:Int),.int 3]) (by simp[em]) e2
  have st:QS (n+3) [.bo (oh ns),.bo (.int k),.bo (.int (m:Int)),.ow (bs.map p8),.pu (.int i)]=.nx [.bo (oh ns),.bo (.int k),.bo (.int (m:Int)),.ow ((bs++[(c1,c2)]).map p8),.pu (.int i)]:=by
   have hlt:bs.length<16777216:=by lia
   unfold QS;rw[SH];simp only[aS,aR];rw[Z5,n6,k1,n6,k2];simp[hlt,p8]
  rw[aV,di (δ1:=[.bo (oh ns),.bo (.int k),.bo (.int (m:Int)),.ow (bs.map p8),.pu (.int i)]) rfl,st];obtain⟨bs',q1,q2,w4,t⟩:=ih (.pu (.int i)) (bs++[(c1,c2)]) (λj hj=>hl j (aK _ hj)) (λb hb=>by
   rcases List.mem_append.mp hb with hb|hb
   ·exact h b hb
   ·rw[List.mem_singleton.mp hb];exact⟨g1,g2⟩) (by rw[aZ];simp;lia)
  exact⟨bs',by rw[q1,aZ];simp;lia,q2,w4,t⟩
def Hq(n:Nat)(ns:List Int)(k:Int)(hk:0<=k)(m:Nat)(hm:m<=6):∃bs:List Bd,(∀b∈bs,GoodB m b)/\bs.length<=5/\af (tab (n+4)) jn [oh ns,.int k,.int (m:Int)]=.ok (a9 bs):=by
 obtain⟨r0,r1⟩:=C8 ns k 6 (by decide);obtain⟨bs,q1,q2,w4,t⟩:=CO n ns k hk m hm (j6 (zd ns k 6).toNat) .no [] (λi hi=>by have:=Tw hi;lia) (λb hb=>by simp at hb) (by unfold j6;simp;lia);have rl:(j6 (zd ns k 6).toNat).length=(zd ns k 6).toNat:=by unfold j6;simp
 refine⟨bs,q2,by rw[q1,rl];simp;lia,?_⟩;rw[Jz (n+3)];have e0:=C9 (n+1) ns k 6 hk (by decide);have hs0:gf (bf 4) (fx (ae (aj (af (tab (n+3)) fi) (ae (aa 0) (ae (aa 1) (ae (gC (.int 6)) ai)))) ai)) (QS (n+3)) [.bo (oh ns),.bo (.int k),.bo (.int (m:Int)),.ow [],.no]=.nx [.bo (oh ns),.bo (.int k),.bo (.int (m:Int)),.ow (bs.map p8),w4]:=by
  rw[ig (ds:=(j6 (zd ns k 6).toNat).map Pu.D.int)]
  ·exact t
  ·rw[<-Lo];refine ue _ _ (j':=zd ns k 6) ?_ (by lia);rw[n6,bb (ds:=[oh ns,.int k,.int 6]) (by simp) e0];rfl
 unfold QS at hs0;unfold zw;simp only[aE,dC,uw,ou,aM,nN,nO,lF,fH];rw[bz,Pa];simp only[Z3,O9,dC,bX,if_true,bp,dZ,eU];rw[bz,hs0];simp[a9]
def Run.sub0{bs:List Bd}{wt rs ss rs':List Nat}(R:Run bs wt rs ss rs'):∀c∈rs,c∈rs':=by
 induction R with
 |stop _=>exact λc hc=>hc
 |step _ _ _ _ ih=>exact λc hc=>ih c (bW _ hc)
def Run.end_{bs:List Bd}{wt rs ss rs':List Nat}(R:Run bs wt rs ss rs'):i5 bs 0 rs'=none\/sub wt rs'=true:=by
 induction R with
 |stop h=>exact h
 |step _ _ _ _ ih=>exact ih
inductive Cl(bs:List Bd)(cs:List Nat):Nat->Prop
 |base {c:Nat} (h:c∈cs):Cl bs cs c
 |step {b:Bd} {d:Nat} (hb:b∈bs) (hl:∀c∈b.1,Cl bs cs c) (hd:d∈b.2):Cl bs cs d
def Closed(bs:List Bd)(S:List Nat):Prop:=∀b∈bs,sub b.1 S=true->sub b.2 S=true
def Cl.le{bs:List Bd}{cs S:List Nat}(hS:Closed bs S)(h:∀c∈cs,c∈S){c:Nat}(k:Cl bs cs c):c∈S:=by
 induction k with
 |base hc=>exact h _ hc
 |step hb _ hd ih=>exact fb.mp (hS _ hb (fb.mpr ih)) _ hd
def Run.sound{bs:List Bd}{wt rs ss rs' cs:List Nat}(R:Run bs wt rs ss rs')(h:∀c∈rs,Cl bs cs c):∀c∈rs',Cl bs cs c:=by
 induction R with
 |stop _=>exact h
 |@step rs ss rs' i b h1 h2 h3 _ ih=>
  refine ih λc hc=>?_;rcases List.mem_append.mp hc with hc|hc
  ·exact h c hc
  ·obtain⟨b',_,q2,q3,_⟩:=qq h1;rw[Nat.sub_zero,h3]at q2;cases q2;exact .step (bF h3) (λc hc=>h c (fb.mp q3 c hc)) hc
def Run.mem{bs:List Bd}{wt cs ss rs':List Nat}(R:Run bs wt cs ss rs'){c:Nat}(hc:c∈wt):c∈rs'↔Cl bs cs c:=by
 refine⟨R.sound (λ_ h=>.base h) c,λk=>?_⟩;rcases R.end_ with h|h
 ·exact k.le (λb hb=>Da h b hb) R.sub0
 ·exact fb.mp h c hc
def yd{S:List Nat}{b:Bd}{c:Nat}:c∈Ik S b↔c∈S\/(sub b.1 S=true/\c∈b.2):=by
 unfold Ik
 by_cases h:sub b.1 S=true
 ·rw[aG h,xt,lZ];exact⟨λk=>k.imp id λk=>⟨h,k⟩,λk=>k.imp id λk=>k.2⟩
 ·rw[aJ h];exact⟨.inl,λk=>k.elim id λk=>absurd k.1 h⟩
theorem uk:∀{bs:List Bd}{S:List Nat}{c:Nat},c∈S->c∈bs.foldl Ik S
 |[],_,_,h=>h
 |b::bs,S,c,h=>uk (bs:=bs) (yd.mpr (.inl h))
def ud{cs S T:List Nat}(h:sub cs S=true)(hT:∀c∈S,c∈T):sub cs T=true:=fb.mpr λc hc=>hT c (fb.mp h c hc)
theorem Fj:∀{bs:List Bd}{S:List Nat}{b:Bd},b∈bs->sub b.1 S=true->sub b.2 (bs.foldl Ik S)=true
 |a::bs,S,b,hb,h=>by
  rcases List.mem_cons.mp hb with rfl|hb
  ·exact fb.mpr λc hc=>uk (bs:=bs) (yd.mpr (.inr ⟨h,hc⟩))
  ·exact Fj (bs:=bs) hb (ud h λc hc=>yd.mpr (.inl hc))
theorem Cb{bs:List Bd}{cs:List Nat}:∀{l:List Bd}{S:List Nat},(∀b∈l,b∈bs)->(∀c∈S,Cl bs cs c)->∀c∈l.foldl Ik S,Cl bs cs c
 |[],_,_,h=>h
 |b::l,S,hl,h=>Cb (l:=l) (λx hx=>hl x (aK _ hx)) λc hc=>by
  rcases yd.mp hc with hc|⟨h1,h2⟩
  ·exact h c hc
  ·exact .step (hl b aN) (λx hx=>h x (fb.mp h1 x hx)) h2
theorem Ga{bs:List Bd}{cs:List Nat}:∀{k:Nat}{S:List Nat},(∀c∈S,Cl bs cs c)->∀c∈FL bs k S,Cl bs cs c
 |0,_,h=>h
 |k+1,S,h=>Ga (k:=k) (Cb (λ_ h=>h) h)
theorem L7{bs:List Bd}:∀{k:Nat}{S:List Nat}{c:Nat},c∈S->c∈FL bs k S
 |0,_,_,h=>h
 |k+1,S,c,h=>L7 (k:=k) (uk h)
theorem Ab{bs:List Bd}{S:List Nat}(hS:Closed bs S):∀{l:List Bd}{T:List Nat},(∀b∈l,b∈bs)->(∀c,c∈T↔c∈S)->∀c,c∈l.foldl Ik T↔c∈S
 |[],_,_,h=>h
 |b::l,T,hl,h=>Ab hS (l:=l) (λx hx=>hl x (aK _ hx)) λc=>by
  rw[yd,h];refine⟨λk=>k.elim id λ⟨h1,h2⟩=>?_,.inl⟩;exact fb.mp (hS b (hl b aN) (ud h1 λc hc=>(h c).mp hc)) c h2
def Closed.congr{bs:List Bd}{S T:List Nat}(hS:Closed bs S)(h:∀c,c∈T↔c∈S):Closed bs T:=λb hb k=>
 ud (hS b hb (ud k λc hc=>(h c).mp hc)) λc hc=>(h c).mpr hc
theorem Gb{bs:List Bd}:∀{k:Nat}{S:List Nat},Closed bs S->Closed bs (FL bs k S)
 |0,_,h=>h
 |k+1,S,h=>Gb (k:=k) (h.congr (Ab h (λ_ h=>h) λ_=>Iff.rfl))
theorem Dy{bs:List Bd}:∀{k:Nat}{S:List Nat},Me bs S<=k->Closed bs (FL bs k S)
 |0,S,h=>λb hb _=>by
  cases e:sub b.2 S with
  |true=>exact e
  |false=>
   have:b∈bs.filter λb=> !sub b.2 S:=List.mem_filter.mpr ⟨hb,by rw[e];rfl⟩;have:=List.length_pos_of_mem this;unfold Me at h
   lia
 |k+1,S,h=>by
  by_cases hc:Closed bs S
  ·exact Gb (k:=k+1) hc
  ·obtain⟨b,hb,h1,h2⟩:∃b∈bs,sub b.1 S=true/\sub b.2 S=false:=by
    refine eJ λz=>hc λb hb h1=>?_;cases e:sub b.2 S with
    |true=>rfl
    |false=>exact absurd ⟨b,hb,h1,e⟩ z
   refine Dy (k:=k) ?_;have:Me bs (bs.foldl Ik S)<Me bs S:=by
    refine o8 (a:=b) (λx hx=>?_) hb (by rw[h2];rfl) (by rw[Fj hb h1];rfl);cases e:sub x.2 S with
    |false=>rfl
    |true=>rw[ud e λc hc=>uk hc]at hx;cases hx
   lia
def L8{bs:List Bd}{cs:List Nat}{c:Nat}:c∈i6 bs cs↔Cl bs cs c:=by
 refine⟨λh=>Ga (λx hx=>.base (xt.mp hx)) c h,λk=>?_⟩;exact k.le (Dy (Q8 _)) λx hx=>L7 (xt.mpr hx)
theorem riseF.pwl:∀{S:List Nat}{m:Nat},riseF m S->S.Pairwise (· <·)
 |[],_,_=>iQ
 |k::r,m,⟨h1,h2,h3⟩=>List.Pairwise.cons (λj hj=>by have:=(riseF.lt h3 j hj).1;lia) (riseF.pwl h3)
theorem wj:∀{l k:List Nat},l.Pairwise (· <·)->k.Pairwise (· <·)->(∀c,c∈l↔c∈k)->l=k
 |[],[],_,_,_=>rfl
 |[],b::k,_,_,h=>absurd ((h b).mpr aN) (by simp)
 |a::l,[],_,_,h=>absurd ((h a).mp aN) (by simp)
 |a::l,b::k,h1,h2,h=>by
  rw[List.pairwise_cons]at h1 h2;have hab:a=b:=by
   rcases List.mem_cons.mp ((h a).mp aN)with e|e
   ·exact e
   ·rcases List.mem_cons.mp ((h b).mpr aN)with e'|e'
    ·exact e'.symm
    ·have:=h1.1 b e';have:=h2.1 a e;lia
  subst hab;refine congrArg _ (wj h1.2 h2.2 λc=>⟨λhc=>?_,λhc=>?_⟩)
  ·rcases List.mem_cons.mp ((h c).mp (aK _ hc))with e|e
   ·have:=h1.1 c hc;lia
   ·exact e
  ·rcases List.mem_cons.mp ((h c).mpr (aK _ hc))with e|e
   ·have:=h2.1 c hc;lia
   ·exact e
def xf{g:En->Res}{U:En}{d:Pu.D}(h:g U=.ok d):ny g U=.nx U:=by
 unfold ny;rw[h];rfl
section
variable{bs:List Bd}{m:Nat}{wt cs:List Nat}
def Nl(n:Nat)(hg:∀b∈bs,b.1.length<=10/\b.2.length<=10)(hw:wt.length<=1000)(hb:bs.length<=80)(hc:cs.length<=100):
  ∃rs':List Nat,(∀c∈wt,c∈rs'↔Cl bs cs c)/\af (tab (n+4)) j0 [a9 bs,tN cs,tN wt]=.ok (tN (wt.filter λc=>decide (c∈rs'))):=by
 obtain⟨ss,rs',R,w⟩:=Ul n hg hw hb cs hc;refine⟨rs',λc h=>R.mem h,?_⟩;rw[Sf (n+3)];simp only[aE,dC,uw,ou,aM,nN,nO,lF,fH];unfold Ez;have s1:aj (af (tab (n+3)) sj) (ae (aa 0) (ae (aa 1) (ae (aa 2) ai))) [.bo (a9 bs),.bo (tN cs),.bo (tN wt),.no]=.ok (.tup [.lst (ah ss),.lst (ah rs')]):=
  bb (ds:=[a9 bs,tN cs,tN wt]) (by simp) w
 rw[bz,iw,rf,s1];simp only[YN,bq,GV,g9,bp,dZ,eU];have s2:bw (ba (aa 2)) [3] (g2 cg (aa 0) (aa 1)) (ao 0) [.bo (a9 bs),.bo (tN cs),.bo (tN wt),.pu (.lst (ah rs'))]=.ok (.lst (ah (wt.filter λc=>decide (c∈rs')))):=
  gr (l:=wt) (f:=λ(c:Nat)=>Pu.D.int (c:Int)) (b:=λc=>decide (c∈rs')) (by simp[tN,ah]) (by lia) λc _=>by
   have:=(A6 c rs').1;simp[iq,this]
 rw[uf,Et,s2];rfl
end
def La(c:Nat)(S:List Nat):kl (.int (c:Int)) (tN S)=some (.bl (!decide (c∈S))):=by
 unfold kl tN;rw[(Cg c S).2];rfl
def Kj(c:Nat)(S:List Nat):Ep (.int (c:Int)) (tN S)=some (.bl (decide (c∈S))):=(A6 c S).2.2
theorem xb:∀{S T:List Nat},iy S=iy T->S=T
 |[],[],_=>rfl
 |[],_::_,h=>by cases h
 |_::_,[],h=>by cases h
 |a::S,b::T,h=>by
  injection h with h1 h2
  rw[Int.ofNat.inj h1,xb h2]
def GF(S T:List Nat):jw (tN S) (tN T)=some (.bl (decide (S=T))):=by
 rw[<-ij,<-ij,PF]
 congr 2
 refine decide_eq_decide.mpr ⟨λh=>?_,λh=>by rw[h]⟩;exact xb h
structure Few(L:List Bd):Prop where
 g:∀b∈L,b.1.length<=10/\b.2.length<=10/\qp b.2/\qp b.1
 l:L.length<=80
def Hd{m:Nat}{L:List Bd}(g:∀b∈L,GoodB m b)(h6:m<=6)(h:L.length<=80):Few L:=⟨λb hb=>by
 have h1:=(g b hb).l.len;have h2:=(g b hb).r.len;exact⟨by lia,by lia,λc hc=>by have:=(g b hb).r.lt c hc;lia,λc hc=>by have:=(g b hb).l.lt c hc;lia⟩,h⟩
section
variable{L:List Bd}{cs rs:List Nat}{b:Bd}
def Zc(n:Nat)(F:Few L)(hc:qp cs):af (tab (n+1)) jk [a9 L,tN cs]=.ok (tN (i6 L cs)):=
 (FK n (λb hb=>⟨by have:=(F.g b hb).1;lia,by have:=(F.g b hb).2.1;lia,(F.g b hb).2.2.1⟩) (by have:=F.l;lia) hc).2
end
def GM{xs ys:List Pu.D}(h:xs.length+ys.length<=1000):bx (.lst xs) (.lst ys)=some (.lst (xs++ys)):=by
 show(if xs.length+ys.length<=aQ then some (Pu.D.lst (xs++ys))else none)=_;rw[aG (by rw[cD];lia)]
def isP(s:Sl)(P:List (List Nat)):Prop:=s=.ow (P.map tN)\/s=.pu (.lst (P.map tN))
def isP.arg{s v0 v2:Sl}{P:List (List Nat)}(h:isP s P):aa 1 [v0,s,v2]=.ok (.lst (P.map tN)):=by
 rcases h with rfl|rfl<;>rfl
def QF:En->Out:=(fz [2] (fj 1 (g2 bx (aa 1) (bw (ba (aa 1)) [2] (gC (.bl true)) (g2 bx (aa 0) (ia (ae (ao 1) ai)))))))
def LZ{P:List (List Nat)}{c:Nat}{s v0:Sl}(h:isP s P)(hl:P.length<=400)(hr:∀r∈P,r.length<=100):QF [v0,s,.pu (.int (c:Int))]=.nx [v0,.pu (.lst ((P++P.map λr=>r++[c]).map tN)),.pu (.int (c:Int))]:=by
 have ha:=h.arg (v0:=v0) (v2:=.pu (.int (c:Int)));have cm:bw (ba (aa 1)) [2] (gC (.bl true)) (g2 bx (aa 0) (ia (ae (ao 1) ai))) [v0,s,.pu (.int (c:Int))]=.ok (.lst (P.map λr=>tN (r++[c]))):=by
  refine kn (f:=tN) (by rw[D6,ha];rfl) (by lia) λr hr'=>?_;have ec:iq [2] [v0,s,.pu (.int (c:Int))] (.pu (tN r))=[.pu (tN r),.pu (.int (c:Int))]:=rfl;have ad:bx (tN r) (.tup [.int (c:Int)])=some (tN (r++[c])):=by
   show(if(ah r).length+[Pu.D.int (c:Int)].length<=aQ then some (Pu.D.tup (ah r++[Pu.D.int (c:Int)]))else none)=_;have:=hr r hr';rw[aG (by rw[gp,cD];simp;lia)];unfold tN;rw[mr];rfl
  rw[ec];simp[ad]
 unfold QF;simp only[mn,b9,ik,aS,aR];rw[iw,rf,ha,cm];simp only[bq];rw[GM (by rw[aO,aO];lia),dD,dA];rfl
def Nk(P:List (List Nat))(c:Nat):List (List Nat):=P++P.map λr=>r++[c]
def gi(cs:List Nat):List (List Nat):=cs.foldl Nk [[]]
theorem K2{r:List Nat}:∀{cs:List Nat}{P:List (List Nat)},r∈cs.foldl Nk P↔∃p∈P,∃q,q.Sublist cs/\r=p++q
 |[],P=>by
  constructor
  ·intro h;exact⟨r,h,[],.slnil,by simp⟩
  ·rintro ⟨p,hp,q,hq,rfl⟩
   rw[List.sublist_nil]at hq;subst hq;simpa using hp
 |c::cs,P=>by
  rw[fS,K2];constructor
  ·rintro ⟨p,hp,q,hq,rfl⟩
   rcases List.mem_append.mp hp with hp|hp
   ·exact⟨p,hp,q,hq.cons c,rfl⟩
   ·obtain⟨p',hp',rfl⟩:=List.mem_map.mp hp;exact⟨p',hp',c::q,hq.cons_cons c,by simp⟩
  ·rintro ⟨p,hp,q,hq,rfl⟩
   cases hq with
   |cons _ h=>exact⟨p,bW _ hp,q,h,rfl⟩
   |cons_cons _ h=>exact⟨p++[c],bT _ (List.mem_map.mpr ⟨p,hp,rfl⟩),_,h,by simp⟩
def W7{cs r:List Nat}:r∈gi cs↔r.Sublist cs:=by
 unfold gi;rw[K2];constructor
 ·rintro ⟨p,hp,q,hq,rfl⟩
  rw[List.mem_singleton.mp hp];exact hq
 ·intro h;exact⟨[],by simp,r,h,rfl⟩
theorem B9:∀(cs:List Nat)(P:List (List Nat)),(cs.foldl Nk P).length=P.length * 2 ^ cs.length
 |[],P=>by simp
 |c::cs,P=>by
  rw[fS,B9 cs];unfold Nk;rw[aZ,aO,aE,kW,<-Nat.mul_two,Nat.mul_assoc,oJ 2]
theorem Ca:∀{cs:List Nat}{P:List (List Nat)},cs.Nodup->P.Nodup->(∀p∈P,∀x∈p,x∉cs)->(cs.foldl Nk P).Nodup
 |[],P,_,h,_=>h
 |c::cs,P,hc,h,hd=>by
  obtain⟨c1,c2⟩:=List.nodup_cons.mp hc;rw[fS];refine Ca c2 ?_ λp hp x hx=>?_
  ·refine List.nodup_append.mpr ⟨h,?_,?_⟩
   ·exact nI _ (λa b hab z=>hab (List.append_cancel_right z)) h
   ·intro a ha b hb z;obtain⟨b',_,rfl⟩:=List.mem_map.mp hb;exact hd a ha c (by rw[z];simp) aN
  ·rcases List.mem_append.mp hp with hp|hp
   ·exact λz=>hd p hp x hx (aK _ z)
   ·obtain⟨p',hp',rfl⟩:=List.mem_map.mp hp;rcases List.mem_append.mp hx with hx|hx
    ·exact λz=>hd p' hp' x hx (aK _ z)
    ·rw[List.mem_singleton.mp hx];exact c1
def Ox{cs:List Nat}(h:cs.Nodup):(gi cs).Nodup:=Ca h (by simp) λp hp x hx=>by rw[List.mem_singleton.mp hp]at hx;simp at hx
def Tx{cs:List Nat}(h:cs.Pairwise (· <·)):cs.Nodup:=h.imp λhab=>bJ hab
theorem tj:∀{q r:List Nat},q.Pairwise (· <·)->r.Pairwise (· <·)->(∀x∈q,x∈r)->q≠r->q.length<r.length
 |q,[],_,_,hs,ne=>by
  cases q with
  |nil=>exact absurd rfl ne
  |cons a _=>have:=hs a aN;simp at this
 |[],b::r,_,_,_,_=>by simp
 |a::q,b::r,hq,hr,hs,ne=>by
  obtain⟨q1,q2⟩:=List.pairwise_cons.mp hq;obtain⟨r1,r2⟩:=List.pairwise_cons.mp hr
  by_cases e:a=b
  ·subst e;have:q.length<r.length:=tj q2 r2 (λx hx=>by
    rcases List.mem_cons.mp (hs x (aK _ hx))with z|z
    ·have:=q1 x hx;lia
    ·exact z) λz=>ne (by rw[z])
   simpa using this
  ·have ab:b<a:=by
    rcases List.mem_cons.mp (hs a aN)with z|z
    ·exact absurd z e
    ·exact r1 a z
   have sub':∀x∈a::q,x∈r:=λx hx=>by
    rcases List.mem_cons.mp (hs x hx)with z|z
    ·rcases List.mem_cons.mp hx with y|y
     ·lia
     ·have:=q1 x y;lia
    ·exact z
   by_cases z:a::q=r
   ·rw[<-z];simp
   ·have:=tj hq r2 sub' z;rw[aE (a:=b)];lia
section
variable{hol:List Nat->Bool}{P:List (List Nat)}
def T9{a b c:List Nat}(h:sub a b=true)(k:sub b c=true):sub a c=true:=fb.mpr λx hx=>fb.mp k x (fb.mp h x hx)
end
def AN{α:Type}(f:α->Bool)(l:List α):vj (.lst (l.map λa=>Pu.D.bl (f a)))=some (.bl (l.any f)):=by
 unfold vj;have:jh (l.map λa=>Pu.D.bl (f a))=some (l.map f):=r9 f l;simp[this]
def W6(n:Nat)(cs rs:List Nat)(hl:cs.length<=1000):af (tab (n+1)) ck [tN cs,tN rs]=.ok (.bl (sub cs rs)):=by
 rw[Fg];have hc:bw (ba (aa 0)) [1] (gC (.bl true)) (g2 cg (aa 0) (aa 1)) [.bo (tN cs),.bo (tN rs)]=.ok (.lst (cs.map λc=>Pu.D.bl (decide (c∈rs)))):=
  kn (f:=λ(c:Nat)=>Pu.D.int (c:Int)) (by simp[tN,ah]) (by lia) λc hc=>by
   have e:cg (.int (c:Int)) (tN rs)=some (.bl (decide (c∈rs))):=Kj c rs;show(g2 cg (aa 0) (aa 1)) [.pu (.int (c:Int)),.bo (tN rs)]=_;simp[e]
 have ha:=Gj (λc=>decide (c∈rs)) cs;simp -implicitDefEqProofs [yo,hc,ha,sub]
def Xp{v0:Sl}:∀(cs:List Nat)(P:List (List Nat))(s v2:Sl),isP s P->(∀r∈P,r.length+cs.length<=90)->P.length * 2 ^ cs.length<=400->
  ∃s' w2,isP s' (cs.foldl Nk P)/\turns (bf 2) QF (ah cs) [v0,s,v2]=.nx [v0,s',w2]:=by
 intro cs;induction cs with
 |nil=>intro P s v2 h hr hl;exact⟨s,v2,h,rfl⟩
 |cons c cs ih=>
  intro P s v2 h hr hl;rw[aE,kW]at hl;have h1:1<=2 ^ cs.length:=nB;have h2:P.length * 2 * 2 ^ cs.length<=400:=by rw[Nat.mul_assoc,oJ 2];exact hl
  have h3:P.length<=400:=by
   have:P.length * 1<=P.length * 2 * 2 ^ cs.length:=by
    rw[Nat.mul_assoc];exact Nat.mul_le_mul_left _ (by lia)
   lia
  rw[show ah (c::cs)=.int (c:Int)::ah cs from rfl,di (δ1:=[v0,s,.pu (.int (c:Int))]) rfl,LZ h h3 λr hr'=>by have:=hr r hr';lia];refine ih _ _ _ (.inr rfl) (λr hr'=>?_) (by unfold Nk;rw[aZ,aO,<-Nat.mul_two];exact h2);rw[aE]at hr;rcases List.mem_append.mp hr' with hr'|hr'
  ·have:=hr r hr';lia
  ·obtain⟨r',hr'',rfl⟩:=List.mem_map.mp hr';have:=hr r' hr'';rw[aZ];simp;lia
def LY{cs:List Nat}(hc:cs.length<=6){v0:Sl}(hv:v0=.bo (tN cs)):∃s' w2,isP s' (gi cs)/\gf (bf 2) (ba (yz 0)) QF [v0,.ow [tN []],.no]=.nx [v0,s',w2]:=by
 have h64:2 ^ cs.length<=2 ^ 6:=iZ (by decide) hc;obtain⟨s',w2,h1,h2⟩:=Xp (v0:=v0) cs [[]] (.ow [tN []]) .no (.inl rfl) (λr hr=>by rw[List.mem_singleton.mp hr];simp;lia) (by simp;lia);refine⟨s',w2,h1,?_⟩;subst hv;rw[ig (ds:=ah cs) (by simp[tN])];exact h2
def Nv(r:List Nat):List Int:=(r.length:Int)::lb r
def Js(k:List Int):List Nat:=k.map Int.toNat
def sk(r:List Nat):Js (lb r)=r:=by
 unfold Js lb;rw[dA];have:(Int.toNat ∘ λ(k:Nat)=>(k:Int))=id:=by funext k;simp
 rw[this,List.map_id]
def wg{key:List Nat->List Int}{dec:List Int->List Nat}(hd:∀r,dec (key r)=r){P:List (List Nat)}:
  ((lu (P.map λr=>(key r,tN r))).map λx=>dec x.1).Perm P/\lu (P.map λr=>(key r,tN r))=((lu (P.map λr=>(key r,tN r))).map λx=>dec x.1).map λr=>(key r,tN r):=by
 have pr:=j8 (P.map λr=>(key r,tN r));have sh:∀x∈lu (P.map λr=>(key r,tN r)),x=(key (dec x.1),tN (dec x.1)):=λx hx=>by
  obtain⟨r,_,rfl⟩:=List.mem_map.mp (pr.mem_iff.mp hx);show(key r,tN r)=(key (dec (key r)),tN (dec (key r)));rw[hd]
 refine⟨?_,?_⟩
 ·have:=pr.map λx:List Int×Pu.D=>dec x.1;rw[dA]at this;have e:((λx:List Int×Pu.D=>dec x.1) ∘ λr=>(key r,tN r))=id:=by funext r;exact hd r
  rwa [e,List.map_id]at this
 ·rw[dA];exact((fU λx hx=>(sh x hx).symm).trans (List.map_id _)).symm
theorem D9{α β γ:Type}(f:α->β)(g:α->γ):∀l:List α,(l.map f).zip (l.map g)=l.map λa=>(f a,g a)
 |[]=>rfl
 |a::l=>by rw[aV,aV,jT,D9 f g l];rfl
theorem vp:∀r:List Nat,ti (ah r)=some (lb r)
 |[]=>rfl
 |k::r=>by
  show(match Np (.int (k:Int)),ti (ah r)with
   |some i,some q=>some (i::q)
   |_,_=>none)=_
  rw[vp r];rfl
def Ko(r:List Nat):Pu.D:=.tup [.int (r.length:Int),tN r]
theorem Ku{T:GT}{l:Expr}(h:∀r,T.lam l [] [tN r]=.ok (Ko r)):∀P:List (List Nat),i4 T l [] (P.map tN)=some (P.map Ko)
 |[]=>rfl
 |r::P=>by rw[aV,i4,h r,Ku h P];rfl
theorem Wy:∀P:List (List Nat),pf (P.map Ko)=some (P.map Nv)
 |[]=>rfl
 |r::P=>by
  have e:Ww (Ko r)=some (Nv r):=by
   show(match Np (.int (r.length:Int)),Zs (tN r)with
    |some i,some c=>some (i::c)
    |_,_=>none)=_
   rw[show Zs (tN r)=some (lb r)from vp r];rfl
  rw[aV,pf,e,Wy P];rfl
def ma(cs:List Nat):List (List Nat):=if(gi cs).length<2 then gi cs else(lu ((gi cs).map λr=>(Nv r,tN r))).map λx=>Js x.1.tail
def Vi(cs:List Nat):(ma cs).Perm (gi cs):=by
 unfold ma;split
 ·exact .refl _
 ·exact(wg (key:=Nv) (dec:=λk=>Js k.tail) (λr=>sk r)).1
def A9{cs r:List Nat}:r∈ma cs↔r.Sublist cs:=(Vi cs).mem_iff.trans W7
def Vj{cs:List Nat}(hp:cs.Pairwise (· <·))(hc:cs.length<=5):t8 ((gi cs).map Ko) ((gi cs).map tN)=some ((ma cs).map tN):=by
 have nd:=Ox (Tx hp);have hlen:(gi cs).length=2 ^ cs.length:=by unfold gi;rw[B9];simp
 unfold t8 ma
 by_cases z:(gi cs).length<2
 ·rw[aG (by simpa using z),aG z]
 ·rw[aJ (by simpa using z),Wy,aJ z];dsimp only;have cond:((gi cs).map tN).length<64/\((gi cs).map Nv).Nodup:=by
   refine⟨?_,nI _ (λa b hab e=>hab (by have:=congrArg (λk:List Int=>Js k.tail) e;simpa[Nv,sk]using this)) nd⟩;rw[aO,hlen];have:2 ^ cs.length<=2 ^ 5:=iZ (by decide) hc
   lia
  rw[aG cond,D9]
  conv=>lhs;rw[(wg (key:=Nv) (dec:=λk=>Js k.tail) (P:=gi cs) (λr=>sk r)).2]
  rw[dA];rfl
def YT(T:GT)(l:Expr):En->Out:=(bj (fw 1 (ft (ae (ia ai) ai)))
 (bj (fz [0] (gf (bf 2) (ba (yz 0)) QF))
 (cq (s8 T (aa 1) (Ac l [] [])))))
def Po{T:GT}{l:Expr}(h:∀r,T.lam l [] [tN r]=.ok (Ko r)){cs:List Nat}(hp:cs.Pairwise (· <·))(hc:cs.length<=5):cn (YT T l [.bo (tN cs),.no,.no])=.ok (.lst ((ma cs).map tN)):=by
 obtain⟨s',w2,p3,t⟩:=LY (cs:=cs) (by lia) (v0:=.bo (tN cs)) rfl;have hlen:(gi cs).length=2 ^ cs.length:=by unfold gi;rw[B9];simp
 unfold YT;have s0:fw 1 (ft (ae (ia ai) ai)) [.bo (tN cs),.no,.no]=.nx [.bo (tN cs),.ow [tN []],.no]:=by
  simp[tN,ah]
 rw[bz,s0];dsimp only;rw[bz];simp only[mn,b9,ik,aS,aR];rw[t];dsimp only;have ha:aa 1 [.bo (tN cs),s',w2]=.ok (.lst ((gi cs).map tN)):=p3.arg;have hk:t9 T (.lst ((gi cs).map tN)) (.obj l [])=some (.lst ((ma cs).map tN)):=by
  unfold t9;dsimp only;rw[Ku h];dsimp only;rw[aG (by rw[aO,hlen];have:2 ^ cs.length<=2 ^ 5:=iZ (by decide) hc;lia),Vj hp hc];rfl
 have hg:s8 T (aa 1) (Ac l [] []) [.bo (tN cs),s',w2]=.ok (.lst ((ma cs).map tN)):=by
  unfold s8;rw[ha];show Res.of (t9 T (.lst ((gi cs).map tN)) (.obj l []))=_;rw[hk];rfl
 rw[uf,hg];rfl
def M3(n:Nat){cs:List Nat}(hp:cs.Pairwise (· <·))(hc:cs.length<=5):af (tab (n+2)) jm [tN cs]=.ok (.lst ((ma cs).map tN)):=by
 rw[Se (n+1)];exact Po (T:=tab (n+2)) (l:=za) (λr=>by rw[Nb];unfold Fc;simp[tN,Ko,ah]) hp hc
def Ah(n:Nat){cs:List Nat}(hp:cs.Pairwise (· <·))(hc:cs.length<=5):af (tab (n+2)) cw [tN cs]=.ok (.lst ((ma cs).map tN)):=by
 rw[Ei (n+1)];exact Po (T:=tab (n+2)) (l:=oz) (λr=>by rw[B5];unfold va;simp[tN,Ko,ah]) hp hc
def hz(bs:List Bd)(cs r:List Nat):List Nat:=cs.filter λc=>decide (c∈i6 bs r)
def rz(bs:List Bd)(cs r:List Nat):List Nat:=cs.filter λc=>decide (c∈r)|| !decide (c∈hz bs cs r)
def n9(bs:List Bd)(cs r:List Nat):Bool:= !decide (hz bs cs r=r) && !decide (hz bs cs r=cs)
section
variable{bs:List Bd}{cs r:List Nat}
def vy{c:Nat}:c∈hz bs cs r↔c∈cs/\Cl bs r c:=by
 unfold hz;rw[List.mem_filter,decide_eq_true_eq,L8]
def v8{c:Nat}:c∈rz bs cs r↔c∈cs/\(c∈r\/c∉hz bs cs r):=by
 unfold rz;rw[List.mem_filter,dG,decide_eq_true_eq,gU,decide_eq_false_iff_not]
def Gn(hp:cs.Pairwise (· <·))(hr:r.Sublist cs):n9 bs cs r=(decide (r.length<(hz bs cs r).length) && decide ((hz bs cs r).length<cs.length)):=by
 have p1:(hz bs cs r).Pairwise (· <·):=hp.filter _;have p2:r.Pairwise (· <·):=hp.sublist hr;have i1:∀x∈r,x∈hz bs cs r:=λx hx=>vy.mpr ⟨hr.subset hx,.base hx⟩;have i2:∀x∈hz bs cs r,x∈cs:=λx hx=>(vy.mp hx).1;unfold n9
 by_cases e1:hz bs cs r=r
 ·rw[decide_eq_true e1,decide_eq_false (show¬r.length<(hz bs cs r).length by rw[e1];exact cI _)];rfl
 ·rw[decide_eq_false e1,decide_eq_true (tj p2 p1 i1 (fM e1))]
  by_cases e2:hz bs cs r=cs
  ·rw[decide_eq_true e2,decide_eq_false (show¬(hz bs cs r).length<cs.length by rw[e2];exact cI _)];rfl
  ·rw[decide_eq_false e2,decide_eq_true (tj p1 hp i2 e2)];rfl
def Hi(hp:cs.Pairwise (· <·))(hr:r.Sublist cs)(hb:n9 bs cs r=true):(hz bs cs r).length<cs.length/\(rz bs cs r).length<cs.length:=by
 rw[Gn hp hr,aF,decide_eq_true_eq,decide_eq_true_eq]at hb;refine⟨hb.2,tj (hp.filter _) hp (λx hx=>(v8.mp hx).1) λe=>?_⟩;have all:∀x∈hz bs cs r,x∈r:=λx hx=>by
  have hx':x∈rz bs cs r:=by rw[e];exact(vy.mp hx).1
  rcases(v8.mp hx').2 with h|h
  ·exact h
  ·exact absurd hx h
 have p1:(hz bs cs r).Pairwise (· <·):=hp.filter _;have p2:r.Pairwise (· <·):=hp.sublist hr
 by_cases e1:hz bs cs r=r
 ·rw[e1]at hb;lia
 ·have:=tj p1 p2 all e1
  lia
def BS(n:Nat)(F:Few bs)(hc:cs.length<=1000)(hr:r.length<=100):af (tab (n+4)) j0 [a9 bs,tN r,tN cs]=.ok (tN (hz bs cs r)):=by
 obtain⟨rs',h1,h2⟩:=Nl n (λb hb=>⟨(F.g b hb).1,(F.g b hb).2.1⟩) hc F.l hr;rw[h2]
 congr 2
 unfold hz;refine List.filter_congr λc hc=>?_;rw[decide_eq_decide];exact(h1 c hc).trans L8.symm
def OZ(n:Nat):En->Out:=(bj (fj 3 (aj (af (tab n) j0) (ae (aa 0) (ae (aa 2) (ae (aa 1) ai)))))
 (t7 (ni mf mf (g1 fe (aa 2)) (g1 fe (aa 3)) (g1 fe (aa 1))) (fz [3] (cq (ia (ae (ao 3) (ae (g1 cu (bw (ba (aa 1)) [2,3] (Ad (g2 cg (aa 0) (aa 1)) (g2 cj (aa 0) (aa 2))) (ao 0))) ai))))) jy))
def Nz{S:List Nat}(h:S.length<=1000):fe (tN S)=some (.int (S.length:Nat)):=by
 unfold tN;simp[ah]
def EB{v0 v3:Sl}(hc:cs.length<=1000)(hv:v3=.pu (tN (hz bs cs r))):bw (ba (aa 1)) [2,3] (Ad (g2 cg (aa 0) (aa 1)) (g2 cj (aa 0) (aa 2))) (ao 0) [v0,.bo (tN cs),.pu (tN r),v3]=.ok (.lst (ah (rz bs cs r))):=by
 subst hv;refine gr (l:=cs) (f:=λ(c:Nat)=>Pu.D.int (c:Int)) (b:=λc=>decide (c∈r)|| !decide (c∈hz bs cs r)) (by simp[tN,ah]) (by lia) λc _=>?_;have e1:cg (.int (c:Int)) (tN r)=some (.bl (decide (c∈r))):=Kj c r;have e2:cj (.int (c:Int)) (tN (hz bs cs r))=some (.bl (!decide (c∈hz bs cs r))):=La c _;show Ad (g2 cg (aa 0) (aa 1)) (g2 cj (aa 0) (aa 2)) [.pu (.int (c:Int)),.pu (tN r),.pu (tN (hz bs cs r))]=_
 by_cases h:c∈r
 ·rw[decide_eq_true h]at e1⊢;simp[e1]
 ·rw[decide_eq_false h]at e1⊢;simp[e1,e2]
def OY(n:Nat)(F:Few bs)(hp:cs.Pairwise (· <·))(hc:cs.length<=100)(hr:r.Sublist cs){v3:Sl}:OZ (n+4) [.bo (a9 bs),.bo (tN cs),.pu (tN r),v3]=if n9 bs cs r then .rt (.tup [tN (hz bs cs r),tN (rz bs cs r)])else .nx [.bo (a9 bs),.bo (tN cs),.pu (tN r),.pu (tN (hz bs cs r))]:=by
 have hl:=hr.length_le;have k1:aj (af (tab (n+4)) j0) (ae (aa 0) (ae (aa 2) (ae (aa 1) ai))) [.bo (a9 bs),.bo (tN cs),.pu (tN r),v3]=.ok (tN (hz bs cs r)):=bb (ds:=[a9 bs,tN r,tN cs]) rfl (BS n F (by lia) (by lia));have hh:(hz bs cs r).length<=cs.length:=iK _ _;unfold OZ;rw[bz,iw,k1,bp];show t7 _ _ _ [.bo (a9 bs),.bo (tN cs),.pu (tN r),.pu (tN (hz bs cs r))]=_;have c1:ni mf mf (g1 fe (aa 2)) (g1 fe (aa 3)) (g1 fe (aa 1)) [.bo (a9 bs),.bo (tN cs),.pu (tN r),.pu (tN (hz bs cs r))]=.ok (.bl (n9 bs cs r)):=by
  have l1:g1 fe (aa 2) [.bo (a9 bs),.bo (tN cs),.pu (tN r),.pu (tN (hz bs cs r))]=.ok (.int (r.length:Nat)):=by
   show Res.of (fe (tN r))=_;rw[Nz (by lia)];rfl
  have l2:g1 fe (aa 3) [.bo (a9 bs),.bo (tN cs),.pu (tN r),.pu (tN (hz bs cs r))]=.ok (.int ((hz bs cs r).length:Nat)):=by
   show Res.of (fe (tN (hz bs cs r)))=_;rw[Nz (by lia)];rfl
  have l3:g1 fe (aa 1) [.bo (a9 bs),.bo (tN cs),.pu (tN r),.pu (tN (hz bs cs r))]=.ok (.int (cs.length:Nat)):=by
   show Res.of (fe (tN cs))=_;rw[Nz (by lia)];rfl
  have lt:∀a b:Nat,mf (.int (a:Int)) (.int (b:Int))=some (.bl (decide (a<b))):=λa b=>by
   show some (Pu.D.bl (decide ((a:Int)<(b:Int))))=_;rw[decide_eq_decide.mpr Int.ofNat_lt]
  rw[Gn hp hr]
  by_cases h:r.length<(hz bs cs r).length
  ·simp only[Rh,l1,l2,l3,bq,lt,decide_eq_true h,g9,lN]
  ·simp only[Rh,l1,l2,l3,bq,lt,decide_eq_false h,g9,Bool.false_and]
 rw[Iu,c1,bp];cases hb:n9 bs cs r with
 |false=>rfl
 |true=>
  have e:=EB (v0:=.bo (a9 bs)) (v3:=.pu (tN (hz bs cs r))) (bs:=bs) (cs:=cs) (r:=r) (by lia) rfl;show fz [3] (cq _) [.bo (a9 bs),.bo (tN cs),.pu (tN r),.pu (tN (hz bs cs r))]=_;simp only[mn,b9,ik,aS,aR];have e2:g1 cu (bw (ba (aa 1)) [2,3] (Ad (g2 cg (aa 0) (aa 1)) (g2 cj (aa 0) (aa 2))) (ao 0)) [.bo (a9 bs),.bo (tN cs),.pu (tN r),.pu (tN (hz bs cs r))]=.ok (tN (rz bs cs r)):=by
   rw[Et,e];rfl
  rw[uf,Z5,n6,n6,e2];rfl
def HI(bs:List Bd)(cs:List Nat):Option (List Nat)->Pu.D
 |some r=>.tup [tN (hz bs cs r),tN (rz bs cs r)]
 |none=>.non
theorem Re(n:Nat)(F:Few bs)(hp:cs.Pairwise (· <·))(hc:cs.length<=100):∀(S:List (List Nat))(v2 v3:Sl),(∀r∈S,r.Sublist cs)->
  match S.find? (n9 bs cs)with
  |some r=>turns (bf 2) (OZ (n+4)) (S.map tN) [.bo (a9 bs),.bo (tN cs),v2,v3]=.rt (.tup [tN (hz bs cs r),tN (rz bs cs r)])
  |none=>∃w2 w3,turns (bf 2) (OZ (n+4)) (S.map tN) [.bo (a9 bs),.bo (tN cs),v2,v3]=.nx [.bo (a9 bs),.bo (tN cs),w2,w3]
 |[],v2,v3,_=>⟨v2,v3,rfl⟩
 |r::S,v2,v3,hS=>by
  have e:=OY n F hp hc (hS r aN) (v3:=v3);have ih:=Re n F hp hc S (.pu (tN r)) (.pu (tN (hz bs cs r))) λq hq=>hS q (aK _ hq);rw[aV,di (δ1:=[.bo (a9 bs),.bo (tN cs),.pu (tN r),v3]) rfl,e,fI];cases hb:n9 bs cs r with
  |true=>rfl
  |false=>exact ih
def Zz(n:Nat)(F:Few bs)(hp:cs.Pairwise (· <·))(hc:cs.length<=5):af (tab (n+5)) iu [a9 bs,tN cs]=.ok (HI bs cs ((ma cs).find? (n9 bs cs))):=by
 rw[J5 (n+4)];show cn (zy (n+4) [.bo (a9 bs),.bo (tN cs),.no,.no])=_;have k1:aj (af (tab (n+4)) jm) (ae (aa 1) ai) [.bo (a9 bs),.bo (tN cs),.no,.no]=.ok (.lst ((ma cs).map tN)):=bb (ds:=[tN cs]) rfl (M3 (n+2) hp hc);have hs:gf (bf 2) (ba (aj (af (tab (n+4)) jm) (ae (aa 1) ai))) (OZ (n+4)) [.bo (a9 bs),.bo (tN cs),.no,.no]=turns (bf 2) (OZ (n+4)) ((ma cs).map tN) [.bo (a9 bs),.bo (tN cs),.no,.no]:=ig (by rw[D6,k1];rfl);have hl:=Re n F hp (by lia) (ma cs) .no .no λr hr=>A9.mp hr;show cn ((bj (gf (bf 2) (ba (aj (af (tab (n+4)) jm) (ae (aa 1) ai))) (OZ (n+4))) (cq (gC .non))) [.bo (a9 bs),.bo (tN cs),.no,.no])=_;rw[bz,hs];cases e:(ma cs).find? (n9 bs cs)with
 |some r=>rw[e]at hl;rw[hl];rfl
 |none=>
  rw[e]at hl;obtain⟨w2,w3,q⟩:=hl;rw[q];rfl
end
def N4(S T:List Nat):dh (tN S) (tN T)=some (.bl (!decide (S=T))):=by
 rw[<-ij,<-ij,QO]
 congr 3
 rw[decide_eq_decide];exact⟨xb,λh=>by rw[h]⟩
section
variable{bs:List Bd}{cs r:List Nat}
def JX(n:Nat):En->Out:=(bj (fj 3 (aj (af (tab n) jk) (ae (aa 0) (ae (aa 2) ai))))
 (bj (fj 4 (g1 cu (bw (ba (aa 1)) [3] (g2 cg (aa 0) (aa 1)) (ao 0))))
 (t7 (nh (g2 dh (aa 4) (aa 2)) (g2 dh (aa 4) (aa 1))) (fz [2,4] (cq (ia (ae (ao 2) (ae (ao 4) ai))))) jy)))
def JW(n:Nat)(F:Few bs)(h6:qp cs)(hc:cs.length<=100)(hr:r.Sublist cs){v3 v4:Sl}:JX (n+1) [.bo (a9 bs),.bo (tN cs),.pu (tN r),v3,v4]=if n9 bs cs r then .rt (.tup [tN r,tN (hz bs cs r)])else .nx [.bo (a9 bs),.bo (tN cs),.pu (tN r),.pu (tN (i6 bs r)),.pu (tN (hz bs cs r))]:=by
 have k1:aj (af (tab (n+1)) jk) (ae (aa 0) (ae (aa 2) ai)) [.bo (a9 bs),.bo (tN cs),.pu (tN r),v3,v4]=.ok (tN (i6 bs r)):=bb (ds:=[a9 bs,tN r]) rfl (Zc n F λc hc=>h6 c (hr.subset hc));unfold JX;rw[bz,iw,k1,bp];show bj _ _ [.bo (a9 bs),.bo (tN cs),.pu (tN r),.pu (tN (i6 bs r)),v4]=_;have k2:g1 cu (bw (ba (aa 1)) [3] (g2 cg (aa 0) (aa 1)) (ao 0)) [.bo (a9 bs),.bo (tN cs),.pu (tN r),.pu (tN (i6 bs r)),v4]=.ok (tN (hz bs cs r)):=by
  have e:bw (ba (aa 1)) [3] (g2 cg (aa 0) (aa 1)) (ao 0) [.bo (a9 bs),.bo (tN cs),.pu (tN r),.pu (tN (i6 bs r)),v4]=.ok (.lst (ah (hz bs cs r))):=by
   refine gr (l:=cs) (f:=λ(c:Nat)=>Pu.D.int (c:Int)) (b:=λc=>decide (c∈i6 bs r)) (by simp[tN,ah]) (by lia) λc _=>?_;have e1:cg (.int (c:Int)) (tN (i6 bs r))=some (.bl (decide (c∈i6 bs r))):=Kj c _;show g2 cg (aa 0) (aa 1) [.pu (.int (c:Int)),.pu (tN (i6 bs r))]=_;simp[e1]
  rw[Et,e];rfl
 rw[bz,iw,k2,bp];show t7 _ _ _ [.bo (a9 bs),.bo (tN cs),.pu (tN r),.pu (tN (i6 bs r)),.pu (tN (hz bs cs r))]=_;have c1:nh (g2 dh (aa 4) (aa 2)) (g2 dh (aa 4) (aa 1)) [.bo (a9 bs),.bo (tN cs),.pu (tN r),.pu (tN (i6 bs r)),.pu (tN (hz bs cs r))]=.ok (.bl (n9 bs cs r)):=by
  have n1:g2 dh (aa 4) (aa 2) [.bo (a9 bs),.bo (tN cs),.pu (tN r),.pu (tN (i6 bs r)),.pu (tN (hz bs cs r))]=.ok (.bl (!decide (hz bs cs r=r))):=by
   show Res.of (dh (tN (hz bs cs r)) (tN r))=_;rw[N4];rfl
  have n2:g2 dh (aa 4) (aa 1) [.bo (a9 bs),.bo (tN cs),.pu (tN r),.pu (tN (i6 bs r)),.pu (tN (hz bs cs r))]=.ok (.bl (!decide (hz bs cs r=cs))):=by
   show Res.of (dh (tN (hz bs cs r)) (tN cs))=_;rw[N4];rfl
  unfold n9;generalize decide (hz bs cs r=r)=b1 at n1⊢;generalize decide (hz bs cs r=cs)=b2 at n2⊢;cases b1<;>simp only[Rg,n1,n2,bq]<;>rfl
 rw[Iu,c1,bp];cases hb:n9 bs cs r with
 |false=>rfl
 |true=>
  show fz [2,4] (cq _) [.bo (a9 bs),.bo (tN cs),.pu (tN r),.pu (tN (i6 bs r)),.pu (tN (hz bs cs r))]=_;simp only[mn,b9,ik,aS,aR];rfl
def YC(bs:List Bd)(cs:List Nat):Option (List Nat)->Pu.D
 |some r=>.tup [tN r,tN (hz bs cs r)]
 |none=>.non
theorem P6(n:Nat)(F:Few bs)(h6:qp cs)(hc:cs.length<=100):∀(S:List (List Nat))(v2 v3 v4:Sl),(∀r∈S,r.Sublist cs)->
  match S.find? (n9 bs cs)with
  |some r=>turns (bf 2) (JX (n+1)) (S.map tN) [.bo (a9 bs),.bo (tN cs),v2,v3,v4]=.rt (.tup [tN r,tN (hz bs cs r)])
  |none=>∃w2 w3 w4,turns (bf 2) (JX (n+1)) (S.map tN) [.bo (a9 bs),.bo (tN cs),v2,v3,v4]=.nx [.bo (a9 bs),.bo (tN cs),w2,w3,w4]
 |[],v2,v3,v4,_=>⟨v2,v3,v4,rfl⟩
 |r::S,v2,v3,v4,hS=>by
  have e:=JW n F h6 hc (hS r aN) (v3:=v3) (v4:=v4);have ih:=P6 n F h6 hc S (.pu (tN r)) (.pu (tN (i6 bs r))) (.pu (tN (hz bs cs r))) λq hq=>hS q (aK _ hq);rw[aV,di (δ1:=[.bo (a9 bs),.bo (tN cs),.pu (tN r),v3,v4]) rfl,e,fI];cases hb:n9 bs cs r with
  |true=>rfl
  |false=>exact ih
def B7(n:Nat)(F:Few bs)(hp:cs.Pairwise (· <·))(h6:qp cs)(hc:cs.length<=5):af (tab (n+3)) dj [a9 bs,tN cs]=.ok (YC bs cs ((ma cs).find? (n9 bs cs))):=by
 rw[J0 (n+2)];have k1:aj (af (tab (n+2)) cw) (ae (aa 1) ai) [.bo (a9 bs),.bo (tN cs),.no,.no,.no]=.ok (.lst ((ma cs).map tN)):=bb (ds:=[tN cs]) rfl (Ah n hp hc);have hs:gf (bf 2) (ba (aj (af (tab (n+2)) cw) (ae (aa 1) ai))) (JX (n+2)) [.bo (a9 bs),.bo (tN cs),.no,.no,.no]=turns (bf 2) (JX (n+2)) ((ma cs).map tN) [.bo (a9 bs),.bo (tN cs),.no,.no,.no]:=ig (by rw[D6,k1];rfl);have hl:=P6 (n+1) F h6 (by lia) (ma cs) .no .no .no λr hr=>A9.mp hr;show cn ((bj (gf (bf 2) (ba (aj (af (tab (n+2)) cw) (ae (aa 1) ai))) (JX (n+2))) (cq (gC .non))) [.bo (a9 bs),.bo (tN cs),.no,.no,.no])=_;rw[bz,hs];cases e:(ma cs).find? (n9 bs cs)with
 |some r=>rw[e]at hl;rw[hl];rfl
 |none=>
  rw[e]at hl;obtain⟨w2,w3,w4,q⟩:=hl;rw[q];rfl
def ir(bs:List Bd):Nat->List Nat->List (List Nat)
 |0,cs=>[cs]
 |k+1,cs=>match (ma cs).find? (n9 bs cs)with
  |none=>[cs]
  |some r=>ir bs k (hz bs cs r)++ir bs k (rz bs cs r)
def sv(h:(ma cs).find? (n9 bs cs)=some r):r.Sublist cs/\n9 bs cs r=true:=⟨A9.mp (jH h),oV h⟩
def m8{k:Nat}(h:(ma cs).find? (n9 bs cs)=some r):ir bs (k+1) cs=ir bs k (hz bs cs r)++ir bs k (rz bs cs r):=by
 show(match (ma cs).find? (n9 bs cs)with
  |none=>[cs]
  |some r=>ir bs k (hz bs cs r)++ir bs k (rz bs cs r))=_
 rw[h]
def m7{k:Nat}(h:(ma cs).find? (n9 bs cs)=none):ir bs k cs=[cs]:=by
 cases k with
 |zero=>rfl
 |succ k=>
  show(match (ma cs).find? (n9 bs cs)with
   |none=>[cs]
   |some r=>ir bs k (hz bs cs r)++ir bs k (rz bs cs r))=_
  rw[h]
theorem uh:∀(k:Nat)(cs:List Nat),(ir bs k cs).length<=2 ^ k
 |0,_=>aH _
 |k+1,cs=>by
  unfold ir;cases (ma cs).find? (n9 bs cs)with
  |none=>exact nB
  |some r=>
   have h1:=uh k (hz bs cs r);have h2:=uh k (rz bs cs r);show(ir bs k (hz bs cs r)++ir bs k (rz bs cs r)).length<=_;rw[aZ,kW]
   lia
theorem Oj(n:Nat)(F:Few bs):∀(k:Nat)(cs:List Nat),cs.length<=k->k<=5->cs.Pairwise (· <·)->af (tab (n+6+k)) dq [a9 bs,tN cs]=.ok (.lst ((ir bs k cs).map tN))
 |k,cs,hk,h5,hp=>by
  have e0:n+6+k=(n+k+5)+1:=by lia
  rw[e0,Ax (n+k+5)];show cn (l7 (n+k+5) [.bo (a9 bs),.pu (tN cs),.no])=_;have k1:aj (af (tab (n+k+5)) iu) (ae (aa 0) (ae (aa 1) ai)) [.bo (a9 bs),.pu (tN cs),.no]=.ok (HI bs cs ((ma cs).find? (n9 bs cs))):=bb (ds:=[a9 bs,tN cs]) rfl (Zz (n+k) F hp (by lia));unfold l7;rw[bz,iw,k1,bp];show cn (bj _ _ [.bo (a9 bs),.pu (tN cs),.pu (HI bs cs ((ma cs).find? (n9 bs cs)))])=_;cases e:(ma cs).find? (n9 bs cs)with
  |none=>
   rw[m7 e];rfl
  |some r=>
   obtain⟨hr,hb⟩:=sv e;obtain⟨l1,l2⟩:=Hi hp hr hb;cases k with
   |zero=>exact absurd hk (by lia)
   |succ k=>
    have ih1:=Oj n F k (hz bs cs r) (by lia) (by lia) (hp.filter _);have ih2:=Oj n F k (rz bs cs r) (by lia) (by lia) (hp.filter _);have e1:n+(k+1)+5=n+6+k:=by lia
    rw[e1];have c1:g2 me (aa 2) (gC .non) [.bo (a9 bs),.pu (tN cs),.pu (HI bs cs (some r))]=.ok (.bl false):=rfl;have q1:aj (af (tab (n+6+k)) dq) (ae (aa 0) (ae (g2 br (aa 2) (gC (.int 0))) ai)) [.bo (a9 bs),.pu (tN cs),.pu (HI bs cs (some r))]=.ok (.lst ((ir bs k (hz bs cs r)).map tN)):=bb (ds:=[a9 bs,tN (hz bs cs r)]) rfl ih1;have q2:aj (af (tab (n+6+k)) dq) (ae (aa 0) (ae (g2 br (aa 2) (gC (.int 1))) ai)) [.bo (a9 bs),.pu (tN cs),.pu (HI bs cs (some r))]=.ok (.lst ((ir bs k (rz bs cs r)).map tN)):=bb (ds:=[a9 bs,tN (rz bs cs r)]) rfl ih2;have p:2 ^ k<=2 ^ 5:=iZ (by decide) (by lia);have n1:=uh (bs:=bs) k (hz bs cs r);have n2:=uh (bs:=bs) k (rz bs cs r);rw[bz,Iu,c1,bp];show cn (cq (g2 bx _ _) [.bo (a9 bs),.pu (tN cs),.pu (HI bs cs (some r))])=_;rw[uf,rf,q1,q2];dsimp only[bq];rw[GM (by rw[aO,aO];lia),<-dD];rw[m8 e];rfl
end
def NS(S:List Nat):WV (tN S):=by
 obtain⟨p,e1,e2,e3⟩:=Bc (iy S);rw[ij]at e1;exact⟨p,e1,e2,cB e3 (by decide)⟩
def FP(P:List (List Nat)):AQ (P.map tN):=NT λd hd=>by
 obtain⟨S,_,rfl⟩:=List.mem_map.mp hd;exact NS S
section
variable{bs:List Bd}
def TC:En->Res:=g2 dh (aa 3) (ft ai)
def KZ(n:Nat):En->Out:=(bj (ot 4 (Ni 3))
 (bj (fj 5 (aj (af (tab n) dj) (ae (aa 0) (ae (aa 4) ai))))
 (t7 (g2 me (aa 5) (gC .non)) (fz [4] (pq 2 (ao 4))) (bj (fj 6 (g1 cu (bw (ba (aa 4)) [5] (Ad (g2 cg (aa 0) (g2 br (aa 1) (gC (.int 0)))) (g2 cj (aa 0) (g2 br (aa 1) (gC (.int 1))))) (ao 0))))
 (fz [6] (uy 3 (ft (ae (ao 6) (ae (g2 br (aa 5) (gC (.int 1))) ai)))))))))
def TK(p:Nat×List Nat):Prop:=p.2.length<=p.1/\p.1<=5/\p.2.Pairwise (· <·)/\qp p.2
def OC(L:List (Nat×List Nat)):Nat:=(L.map λp=>2 ^ (p.1+1) - 1).sum
def ua(L:List (Nat×List Nat)):List Pu.D:=((L.map λp=>p.2).reverse).map tN
def p7(p:Nat×List Nat)(L:List (Nat×List Nat)):OC (p::L)=2 ^ (p.1+1) - 1+OC L:=by
 unfold OC;rw[aV,nQ]
def Bh(k:Nat):1<=2 ^ (k+1) - 1:=by
 have:1<=2 ^ k:=nB;rw[kW]
 lia
theorem Rl:∀L:List (Nat×List Nat),L.length<=OC L
 |[]=>bX _
 |p::L=>by
  rw[p7,aE];have:=Rl L;have:=Bh p.1
  lia
def ye(p:Nat×List Nat)(L:List (Nat×List Nat)):ua (p::L)=ua L++[tN p.2]:=by
 unfold ua;rw[aV,List.reverse_cons,dD];rfl
def FH(L:List (Nat×List Nat)):(ua L).length=L.length:=by unfold ua;simp
def X2(p:Nat×List Nat)(L:List (Nat×List Nat))(v0 v1 v2 v4 v5 v6:Sl):ot 4 (Ni 3) [v0,v1,v2,.ow (ua (p::L)),v4,v5,v6]=.nx [v0,v1,v2,.ow (ua L),.pu (tN p.2),v5,v6]:=by
 have e:Ni 3 [v0,v1,v2,.ow (ua (p::L)),v4,v5,v6]=.ok (tN p.2) [v0,v1,v2,.ow (ua L),v4,v5,v6]:=by
  show(match (ua (p::L))[(ua (p::L)).length - 1]? with
   |some d=>ResE.ok d ([v0,v1,v2,.ow (ua (p::L)),v4,v5,v6].set 3 (.ow ((ua (p::L)).take ((ua (p::L)).length - 1))))
   |none=>.st)=_
  rw[ye,aZ,iJ,Nat.add_sub_cancel,cJ (aH _),Nat.sub_self,List.take_left];rfl
 unfold ot;rw[e];rfl
def W4(n:Nat)(F:Few bs){p:Nat×List Nat}{L:List (Nat×List Nat)}{M:List (List Nat)}(ok:TK p)(hM:M.length<=1000)(e:(ma p.2).find? (n9 bs p.2)=none)(v1 v4 v5 v6:Sl):
  KZ (n+3) [.bo (a9 bs),v1,.ow (M.map tN),.ow (ua (p::L)),v4,v5,v6]=.nx [.bo (a9 bs),v1,.ow ((M++[p.2]).map tN),.ow (ua L),.pu (tN p.2),.pu .non,v6]:=by
 obtain⟨o1,o2,o3,o4⟩:=ok;have k:=B7 n F o3 o4 (by lia);rw[e]at k;have k1:aj (af (tab (n+3)) dj) (ae (aa 0) (ae (aa 4) ai)) [.bo (a9 bs),v1,.ow (M.map tN),.ow (ua L),.pu (tN p.2),v5,v6]=.ok .non:=bb (ds:=[a9 bs,tN p.2]) rfl k;unfold KZ;rw[bz,X2];dsimp only;rw[bz,iw,k1,bp];show fz [4] (pq 2 (ao 4)) [.bo (a9 bs),v1,.ow (M.map tN),.ow (ua L),.pu (tN p.2),.pu .non,v6]=_;simp only[mn,b9,ik,aS,aR];show(if(M.map tN).length<aQ then Out.nx [.bo (a9 bs),v1,.ow (M.map tN++[tN p.2]),.ow (ua L),.pu (tN p.2),.pu .non,v6]else .st)=_;rw[aG (by rw[aO,cD];lia),dD];rfl
def W5(n:Nat)(F:Few bs){k:Nat}{cs r:List Nat}{L:List (Nat×List Nat)}{M:List (List Nat)}(ok:TK (k+1,cs))(hL:L.length<=1000)(e:(ma cs).find? (n9 bs cs)=some r)(v1 v4 v5 v6:Sl):
  KZ (n+3) [.bo (a9 bs),v1,.ow (M.map tN),.ow (ua ((k+1,cs)::L)),v4,v5,v6]=.nx [.bo (a9 bs),v1,.ow (M.map tN),.ow (ua ((k,hz bs cs r)::(k,rz bs cs r)::L)),.pu (tN cs),.pu (.tup [tN r,tN (hz bs cs r)]),.pu (tN (rz bs cs r))]:=by
 obtain⟨o1,o2,o3,o4⟩:=ok;dsimp only at o1 o2 o3 o4;have q:=B7 n F o3 o4 (by lia);rw[e]at q;have k1:aj (af (tab (n+3)) dj) (ae (aa 0) (ae (aa 4) ai)) [.bo (a9 bs),v1,.ow (M.map tN),.ow (ua L),.pu (tN cs),v5,v6]=.ok (.tup [tN r,tN (hz bs cs r)]):=bb (ds:=[a9 bs,tN cs]) rfl q;unfold KZ;rw[bz,X2];dsimp only;rw[bz,iw,k1,bp];show bj _ _ [.bo (a9 bs),v1,.ow (M.map tN),.ow (ua L),.pu (tN cs),.pu (.tup [tN r,tN (hz bs cs r)]),v6]=_;have k2:g1 cu (bw (ba (aa 4)) [5] (Ad (g2 cg (aa 0) (g2 br (aa 1) (gC (.int 0)))) (g2 cj (aa 0) (g2 br (aa 1) (gC (.int 1))))) (ao 0)) [.bo (a9 bs),v1,.ow (M.map tN),.ow (ua L),.pu (tN cs),.pu (.tup [tN r,tN (hz bs cs r)]),v6]=.ok (tN (rz bs cs r)):=by
  have e:bw (ba (aa 4)) [5] (Ad (g2 cg (aa 0) (g2 br (aa 1) (gC (.int 0)))) (g2 cj (aa 0) (g2 br (aa 1) (gC (.int 1))))) (ao 0) [.bo (a9 bs),v1,.ow (M.map tN),.ow (ua L),.pu (tN cs),.pu (.tup [tN r,tN (hz bs cs r)]),v6]=.ok (.lst (ah (rz bs cs r))):=by
   refine gr (l:=cs) (f:=λ(c:Nat)=>Pu.D.int (c:Int)) (b:=λc=>decide (c∈r)|| !decide (c∈hz bs cs r)) (by simp[tN,ah]) (by lia) λc _=>?_;have e1:g2 cg (aa 0) (g2 br (aa 1) (gC (.int 0))) [.pu (.int (c:Int)),.pu (.tup [tN r,tN (hz bs cs r)])]=.ok (.bl (decide (c∈r))):=by
    show Res.of (cg (.int (c:Int)) (tN r))=_;rw[show cg (.int (c:Int)) (tN r)=some (.bl (decide (c∈r)))from Kj c r];rfl
   have e2:g2 cj (aa 0) (g2 br (aa 1) (gC (.int 1))) [.pu (.int (c:Int)),.pu (.tup [tN r,tN (hz bs cs r)])]=.ok (.bl (!decide (c∈hz bs cs r))):=by
    show Res.of (cj (.int (c:Int)) (tN (hz bs cs r)))=_;rw[show cj (.int (c:Int)) (tN (hz bs cs r))=some (.bl (!decide (c∈hz bs cs r)))from La c _];rfl
   show Ad _ _ [.pu (.int (c:Int)),.pu (.tup [tN r,tN (hz bs cs r)])]=_;generalize decide (c∈r)=b1 at e1⊢;generalize decide (c∈hz bs cs r)=b2 at e2⊢;cases b1<;>simp only[Z4,e1,e2,bq]<;>rfl
  rw[Et,e];rfl
 rw[bz,iw,k2,bp];show fz [6] (uy 3 _) [.bo (a9 bs),v1,.ow (M.map tN),.ow (ua L),.pu (tN cs),.pu (.tup [tN r,tN (hz bs cs r)]),.pu (tN (rz bs cs r))]=_;simp only[mn,b9,ik,aS,aR];rw[ye,ye];have g:ft (ae (ao 6) (ae (g2 br (aa 5) (gC (.int 1))) ai)) [.bo (a9 bs),v1,.ow (M.map tN),.ow (ua L),.pu (tN cs),.pu (.tup [tN r,tN (hz bs cs r)]),.pu (tN (rz bs cs r))]=.ok (.lst [tN (rz bs cs r),tN (hz bs cs r)]):=rfl;have x:uy 3 (ft (ae (ao 6) (ae (g2 br (aa 5) (gC (.int 1))) ai))) [.bo (a9 bs),v1,.ow (M.map tN),.ow (ua L),.pu (tN cs),.pu (.tup [tN r,tN (hz bs cs r)]),.pu (tN (rz bs cs r))]=if(ua L).length+2<=16777216 then Out.nx [.bo (a9 bs),v1,.ow (M.map tN),.ow (ua L++[tN (rz bs cs r),tN (hz bs cs r)]),.pu (tN cs),.pu (.tup [tN r,tN (hz bs cs r)]),.pu (tN (rz bs cs r))]else .st:=rfl
 rw[x,aG (by rw[FH];lia),dM];rfl
theorem Hs(n:Nat)(F:Few bs)(v1:Sl):∀(w:Nat)(L:List (Nat×List Nat))(M:List (List Nat))(fuel:Nat)(v4 v5 v6:Sl),(∀p∈L,TK p)->OC L<=w->w<fuel->M.length+w<=1000->
  ∃w4 w5 w6,jb TC (KZ (n+3)) fuel [.bo (a9 bs),v1,.ow (M.map tN),.ow (ua L),v4,v5,v6]=.nx [.bo (a9 bs),v1,.ow ((M++L.flatMap λp=>ir bs p.1 p.2).map tN),.ow [],w4,w5,w6]
 |w,[],M,fuel,v4,v5,v6,_,_,hf,_=>by
  obtain⟨f,rfl⟩:∃f,fuel=f+1:=⟨fuel - 1,by lia⟩;refine⟨v4,v5,v6,?_⟩;rw[List.flatMap_nil,cA];rfl
 |w,p::L,M,fuel,v4,v5,v6,ok,hw,hf,hM=>by
  obtain⟨f,rfl⟩:∃f,fuel=f+1:=⟨fuel - 1,by lia⟩;have op:=ok p aN;have oL:∀q∈L,TK q:=λq hq=>ok q (aK _ hq);have hl:=Rl L;have hp:=Bh p.1;rw[p7]at hw;have c1:TC [.bo (a9 bs),v1,.ow (M.map tN),.ow (ua (p::L)),v4,v5,v6]=.ok (.bl true):=by
   have e:=(P1 (FP ((((p::L).map λp=>p.2)).reverse))).2;show Res.of (dh (.lst (ua (p::L))) (.lst []))=_;rw[show dh (.lst (ua (p::L))) (.lst [])=some (.bl (!(ua (p::L)).isEmpty))from e,ye];simp
  unfold jb;rw[c1,bp];dsimp only;cases e:(ma p.2).find? (n9 bs p.2)with
  |none=>
   rw[W4 n F op (by lia) e];dsimp only;obtain⟨w4,w5,w6,q⟩:=Hs n F v1 (w - 1) L (M++[p.2]) f (.pu (tN p.2)) (.pu .non) v6 oL (by lia) (by lia) (by rw[aZ];simp;lia);refine⟨w4,w5,w6,?_⟩;rw[q,iS,m7 e,dM]
  |some r=>
   obtain⟨k,cs⟩:=p;obtain⟨o1,o2,o3,o4⟩:=op;dsimp only at o1 o2 o3 o4 e hw hp;obtain⟨hr,hb⟩:=sv e;obtain⟨l1,l2⟩:=Hi o3 hr hb;cases k with
   |zero=>exact absurd o1 (by lia)
   |succ k=>
    rw[W5 n F ⟨o1,o2,o3,o4⟩ (by lia) e];dsimp only;have h2:2 ^ (k+1+1) - 1=2 ^ (k+1) - 1+(2 ^ (k+1) - 1)+1:=by
     have:=Bh k;rw[kW (n:=2) (m:=k+1)]
     lia
    obtain⟨w4,w5,w6,q⟩:=Hs n F v1 (w - 1) ((k,hz bs cs r)::(k,rz bs cs r)::L) M f (.pu (tN cs)) (.pu (.tup [tN r,tN (hz bs cs r)])) (.pu (tN (rz bs cs r))) (λq hq=>by
     rcases List.mem_cons.mp hq with rfl|hq
     ·exact⟨by dsimp only;lia,by dsimp only;lia,o3.filter _,λc hc=>o4 c (vy.mp hc).1⟩
     ·rcases List.mem_cons.mp hq with rfl|hq
      ·exact⟨by dsimp only;lia,by dsimp only;lia,o3.filter _,λc hc=>o4 c (v8.mp hc).1⟩
      ·exact oL q hq) (by rw[p7,p7];dsimp only;lia) (by lia) (by lia)
    refine⟨w4,w5,w6,?_⟩;rw[q,iS,iS,iS];dsimp only;rw[m8 e,dM]
termination_by w=>w
decreasing_by all_goals (rw[p7]at *;have:=Bh p.1;lia)
def CN(n:Nat)(F:Few bs){cs:List Nat}(hp:cs.Pairwise (· <·))(h6:qp cs)(h5:cs.length<=5):af (tab (n+4)) j3 [a9 bs,tN cs]=.ok (.lst ((ir bs 5 cs).map tN)):=by
 rw[Si (n+3)];show cn (E5 (n+3) [.bo (a9 bs),.pu (tN cs),.no,.no,.no,.no,.no])=_;obtain⟨w4,w5,w6,q⟩:=Hs n F (.pu (tN cs)) 63 [(5,cs)] [] Ge .no .no .no (λp hp'=>by rw[List.mem_singleton.mp hp'];exact⟨h5,aH _,hp,h6⟩) (by rw[p7];show 2 ^ (5+1) - 1+OC []<=63;decide) (by decide) (by decide);have q':Yw TC (KZ (n+3)) [.bo (a9 bs),.pu (tN cs),.ow [],.ow [tN cs],.no,.no,.no]=.nx [.bo (a9 bs),.pu (tN cs),.ow ((ir bs 5 cs).map tN),.ow [],w4,w5,w6]:=by
  rw[iS,List.flatMap_nil,cA,fH]at q;exact q
 show cn ((bj (fw 2 (ft ai)) (bj (fz [1] (fw 3 (ft (ae (ao 1) ai)))) (bj (fz [] (Yw TC (KZ (n+3)))) (fz [2] (cq (ao 2)))))) [.bo (a9 bs),.pu (tN cs),.no,.no,.no,.no,.no])=_;have s1:fw 2 (ft ai) [.bo (a9 bs),.pu (tN cs),.no,.no,.no,.no,.no]=.nx [.bo (a9 bs),.pu (tN cs),.ow [],.no,.no,.no,.no]:=rfl;have s2:fz [1] (fw 3 (ft (ae (ao 1) ai))) [.bo (a9 bs),.pu (tN cs),.ow [],.no,.no,.no,.no]=.nx [.bo (a9 bs),.pu (tN cs),.ow [],.ow [tN cs],.no,.no,.no]:=rfl;rw[bz,s1];dsimp only;rw[bz,s2];dsimp only;rw[bz];simp only[b9];rw[q'];rfl
end
theorem Ct:∀{L:List (List Nat)},(∀r∈L,r≠[])->md (L.map tN)=some (L.map lb)
 |[],_=>rfl
 |r::L,h=>by
  have e:Nu (tN r)=some (lb r):=by
   show(match ti (ah r)with
    |some (i::q)=>some (i::q)
    |_=>none)=_
   rw[vp];cases r with
   |nil=>exact absurd rfl (h [] aN)
   |cons a r=>rfl
  rw[aV,md,e,Ct λq hq=>h q (aK _ hq)];rfl
def nK(r:List Nat):L2.bg:=r.map λ(c:Nat)=>.inl (.inl (c:Int))
theorem ze:∀r:List Nat,Hv (ah r)=some (nK r)
 |[]=>rfl
 |c::r=>by
  show(match S8 (.int (c:Int)),Hv (ah r)with
   |some k,some ks=>some (k::ks)
   |_,_=>none)=_
  rw[ze r];rfl
theorem Af:∀P:List (List Nat),ox (P.map tN)=some (P.map nK)
 |[]=>rfl
 |r::P=>by
  have e:d7 (tN r)=some (nK r):=ze r;rw[aV,ox,e,Af P];rfl
theorem W9:∀{a b:List Nat},nK a=nK b->a=b
 |[],[],_=>rfl
 |[],_::_,h=>by cases h
 |_::_,[],h=>by cases h
 |x::a,y::b,h=>by
  have h:((.inl (.inl (x:Int)):L2.NK)::nK a)=.inl (.inl (y:Int))::nK b:=h;injection h with h1 h2
  injection h1 with h1
  injection h1 with h1
  rw[W9 h2,Int.ofNat.inj h1]
def QU(r:List Nat):kT (nK r)=tN r:=by
 unfold kT nK tN ah;rw[dA];rfl
theorem X1:∀r:List Nat,L2.Mp (nK r)=true
 |[]=>rfl
 |_::r=>X1 r
theorem Qy:∀P:List (List Nat),(P.map nK).all L2.Mp=true
 |[]=>rfl
 |r::P=>by rw[aV,cS,X1,Qy P];rfl
def wu(T:List (List Nat)):List (List Nat)->List (List Nat)
 |[]=>T
 |r::P=>wu (if r∈T then T else T++[r]) P
theorem Je{x:List Nat}:∀(P T:List (List Nat)),x∈wu T P↔x∈T\/x∈P
 |[],T=>by unfold wu;simp
 |r::P,T=>by
  unfold wu;rw[Je P,dU];split
  ·rename_i h;constructor
   ·rintro (z|z)
    ·exact .inl z
    ·exact .inr (.inr z)
   ·rintro (z|rfl|z)
    ·exact .inl z
    ·exact .inl h
    ·exact .inr z
  ·rw[lZ,jW,or_assoc]
theorem Bl:∀(P T:List (List Nat)),T.Nodup->(wu T P).Nodup
 |[],T,h=>h
 |r::P,T,h=>by
  unfold wu;refine Bl P _ ?_;split
  ·exact h
  ·rename_i hr;exact List.nodup_append.mpr ⟨h,by simp,λa ha b hb z=>hr (by rw[jW]at hb;rw[<-hb,<-z];exact ha)⟩
theorem Jd:∀(P T:List (List Nat)),(wu T P).length<=T.length+P.length
 |[],T=>aH _
 |r::P,T=>by
  unfold wu;have:=Jd P (if r∈T then T else T++[r]);rw[aE];split at this
  ·rename_i h;rw[aG h];lia
  ·rename_i h;rw[aJ h];rw[aZ]at this;simp at this⊢;lia
theorem F8:∀(P T:List (List Nat)),(P.map nK).foldl L2.s9 (T.map nK)=(wu T P).map nK
 |[],T=>rfl
 |r::P,T=>by
  rw[aV,fS];unfold wu;rw[<-F8 P]
  congr 1
  unfold L2.s9;have e:L2.Cf (T.map nK) (nK r)=decide (r∈T):=by
   by_cases h:r∈T
   ·rw[decide_eq_true h];exact L2.xk.mpr (List.mem_map.mpr ⟨r,h,rfl⟩)
   ·rw[decide_eq_false h];cases q:L2.Cf (T.map nK) (nK r)with
    |false=>rfl
    |true=>
     obtain⟨g,hg,e⟩:=List.mem_map.mp (L2.xk.mp q);exact absurd (W9 e▸hg) h
  rw[e]
  by_cases h:r∈T
  ·rw[aG (decide_eq_true h),aG h]
  ·rw[aJ (by simp[h]),aJ h,dD];rfl
def On{P:List (List Nat)}(nd:P.Nodup)(hne:∀r∈P,r≠[])(hl:P.length<64):∃G:List (List Nat),n4 (P.map tN)=some (G.map tN)/\G.Perm P:=by
 unfold n4
 by_cases h2:(P.map tN).length<2
 ·rw[aG h2];exact⟨P,rfl,.refl _⟩
 ·rw[aJ h2,aG (by rw[aO];exact hl)];have e:j4 (P.map tN)=some (0,P.map lb):=by
   unfold j4;rw[Ct hne]
  rw[e];dsimp only;have q:(P.map lb).Nodup:=nI _ (λa b hab e=>hab (by have:=congrArg Js e;simpa[sk]using this)) nd;rw[aG q,D9];obtain⟨s1,s2⟩:=wg (key:=lb) (dec:=Js) (P:=P) sk;refine⟨_,?_,s1⟩
  conv=>lhs;rw[s2]
  rw[dA];rfl
def yc{P:List (List Nat)}(hne:∀r∈P,r≠[])(hl:P.length<64):∃G:List (List Nat),cf (.lst (P.map tN))=some (.lst (G.map tN))/\(∀r,r∈G↔r∈P)/\G.length<=P.length:=by
 cases P with
 |nil=>exact⟨[],rfl,(λr=>Iff.rfl),aH _⟩
 |cons f r=>
  rw[show cf (.lst ((f::r).map tN))=wb (.lst ((f::r).map tN))from rfl];show∃G:List (List Nat),((ox ((f::r).map tN)).bind λkz=>if(L2.j7 kz).length<=76/\(L2.j7 kz).all L2.Mp=true then(n4 ((L2.j7 kz).map kT)).map Pu.D.lst else none)=_/\_;rw[Af];show∃G:List (List Nat),(if(L2.j7 ((f::r).map nK)).length<=76/\(L2.j7 ((f::r).map nK)).all L2.Mp=true then(n4 ((L2.j7 ((f::r).map nK)).map kT)).map Pu.D.lst else none)=_/\_;have es:L2.j7 ((f::r).map nK)=(wu [] (f::r)).map nK:=F8 (f::r) [];have el:=Jd (f::r) [];rw[dC,mF]at el;have em:((wu [] (f::r)).map nK).map kT=(wu [] (f::r)).map tN:=by
   rw[dA];exact fU λg _=>QU g
  rw[es,aG ⟨by rw[aO];lia,Qy _⟩,em];have mm:∀x,x∈wu [] (f::r)↔x∈f::r:=λx=>by rw[Je];simp
  obtain⟨G,g1,g2⟩:=On (Bl (f::r) [] kM) (λx hx=>hne x ((mm x).mp hx)) (by lia);exact⟨G,by rw[g1];rfl,λx=>g2.mem_iff.trans (mm x),by rw[g2.length_eq];exact el⟩
theorem Fl:∀{kvs:List (Pu.D×Pu.D)}{j:L2.bg},Cf kvs j=(fm kvs j).isSome
 |[],_=>rfl
 |(k,d)::r,j=>by
  have ih:=Fl (kvs:=r) (j:=j);unfold Cf at ih⊢;rw[jL,ih];show _=(if d7 k=some j then some d else fm r j).isSome
  by_cases h:d7 k=some j
  ·rw[decide_eq_true h,aG h];rfl
  ·rw[decide_eq_false h,aJ h];rfl
def Yk{kvs:List (Pu.D×Pu.D)}{j:L2.bg}{v:Pu.D}(h:fm kvs j=none):Lm kvs j v=kvs++[(kT j,v)]:=by
 unfold Lm;rw[Fl,h];rfl
theorem qo:∀{kvs:List (Pu.D×Pu.D)}{j j':L2.bg}{v:Pu.D},fm kvs j=none->fm (kvs++[(kT j,v)]) j'=if j'=j then some v else fm kvs j'
 |[],j,j',v,_=>by
  show(if d7 (kT j)=some j' then some v else none)=_;rw[show d7 (kT j)=some j from uo j]
  by_cases h:j'=j
  ·rw[aG h,aG (by rw[h])]
  ·rw[aJ h,aJ (λz=>h (bS z).symm)];rfl
 |(k,d)::r,j,j',v,h=>by
  have hh:(if d7 k=some j then some d else fm r j)=none:=h
  by_cases hk:d7 k=some j
  ·rw[aG hk]at hh;cases hh
  ·rw[aJ hk]at hh;show(if d7 k=some j' then some d else fm (r++[(kT j,v)]) j')=if j'=j then some v else(if d7 k=some j' then some d else fm r j')
   rw[qo hh]
   by_cases h1:d7 k=some j'
   ·rw[aG h1,aG h1,aJ (λz=>hk (by rw[<-z];exact h1))]
   ·rw[aJ h1,aJ h1]
def ie(a:List Nat)(cs:List Nat):List Nat:=cs.map λc=>a.getD c 0
def Qd{a:List Nat}{c:Nat}(h:c<a.length):br (tN a) (.int (c:Int))=some (.int ((a.getD c 0:Nat):Int)):=by
 show L2.atI (ah a) (c:Int)=_;refine L2.A2 ?_;unfold ah;rw[bM,bL h,bR,bL h];rfl
def Th(n:Nat){a cs:List Nat}(h:∀c∈cs,c<a.length)(hl:cs.length<=1000):af (tab (n+1)) kq [tN a,tN cs]=.ok (tN (ie a cs)):=by
 rw[Vu];have hc:bw (ba (aa 1)) [0] (gC (.bl true)) (g2 br (aa 1) (aa 0)) [.bo (tN a),.bo (tN cs)]=.ok (.lst (cs.map λc=>Pu.D.int ((a.getD c 0:Nat):Int))):=
  kn (f:=λ(c:Nat)=>Pu.D.int (c:Int)) (by simp[tN,ah]) (by lia) λc hc=>by
   have e:=Qd (h c hc);simp[iq,e]
 have e0:tN (ie a cs)=.tup (cs.map λc=>Pu.D.int ((a.getD c 0:Nat):Int)):=by unfold tN ah ie;rw[dA];rfl
 rw[e0];simp -implicitDefEqProofs [Jk,hc]
def O0{a b:List Nat}(h:tN a=tN b):a=b:=by
 have:=GF a b;have h2:=GF b b;rw[h]at this;rw[h2,decide_eq_true rfl]at this;injection this with this
 injection this with this
 exact of_decide_eq_true this.symm
def Up:En->Out:=(t7 (g2 dh (g2 br (aa 6) (aa 7)) (g2 br (aa 5) (aa 7))) (fz [7] (cq (ia (ae (ao 7) (ae (g2 Dl (g2 br (aa 6) (aa 7)) (g2 br (aa 5) (aa 7))) (ae (g2 Dk (g2 br (aa 6) (aa 7)) (g2 br (aa 5) (aa 7))) ai)))))) jy)
def AG(c x y:Nat):Pu.D:=.tup [.int (c:Int),.int (x:Int),.int (y:Int)]
def IK{a k:List Nat}{c:Nat}(ha:c<a.length)(hk:c<k.length)(v0 v1 v2 v3 v4:Sl):Up [v0,v1,v2,v3,v4,.pu (tN a),.pu (tN k),.pu (.int (c:Int))]=if a.getD c 0=k.getD c 0 then .nx [v0,v1,v2,v3,v4,.pu (tN a),.pu (tN k),.pu (.int (c:Int))]else .rt (AG c (min (k.getD c 0) (a.getD c 0)) (max (k.getD c 0) (a.getD c 0))):=by
 have e1:g2 br (aa 6) (aa 7) [v0,v1,v2,v3,v4,.pu (tN a),.pu (tN k),.pu (.int (c:Int))]=.ok (.int ((k.getD c 0:Nat):Int)):=by
  show Res.of (br (tN k) (.int (c:Int)))=_;rw[Qd hk];rfl
 have e2:g2 br (aa 5) (aa 7) [v0,v1,v2,v3,v4,.pu (tN a),.pu (tN k),.pu (.int (c:Int))]=.ok (.int ((a.getD c 0:Nat):Int)):=by
  show Res.of (br (tN a) (.int (c:Int)))=_;rw[Qd ha];rfl
 unfold Up;generalize a.getD c 0=x at e2⊢;generalize k.getD c 0=y at e1⊢;have hne:dh (.int (y:Int)) (.int (x:Int))=some (.bl (!decide (x=y))):=by
  have:dh (.int (y:Int)) (.int (x:Int))=some (.bl (!((y:Int)==(x:Int)))):=by simp
  rw[this]
  congr 3
  by_cases h:x=y
  ·rw[h];simp
  ·rw[decide_eq_false h];exact beq_eq_false_iff_ne.mpr λz=>h (by lia)
 rw[Iu,rf,e1,e2];dsimp only[bq];rw[hne,g9,bp]
 by_cases h:x=y
 ·rw[decide_eq_true h,aG h];rfl
 ·rw[decide_eq_false h,aJ h];have m1:g2 Dl (g2 br (aa 6) (aa 7)) (g2 br (aa 5) (aa 7)) [v0,v1,v2,v3,v4,.pu (tN a),.pu (tN k),.pu (.int (c:Int))]=.ok (.int ((min y x:Nat):Int)):=by
   rw[rf,e1,e2];show Res.ok (.int (if(x:Int)<(y:Int)then(x:Int)else(y:Int)))=_
   congr 2
   split<;>lia
  have m2:g2 Dk (g2 br (aa 6) (aa 7)) (g2 br (aa 5) (aa 7)) [v0,v1,v2,v3,v4,.pu (tN a),.pu (tN k),.pu (.int (c:Int))]=.ok (.int ((max y x:Nat):Int)):=by
   rw[rf,e1,e2];show Res.ok (.int (if(x:Int)>(y:Int)then(x:Int)else(y:Int)))=_
   congr 2
   split<;>lia
  show fz [7] (cq _) [v0,v1,v2,v3,v4,.pu (tN a),.pu (tN k),.pu (.int (c:Int))]=_;simp only[mn,b9,ik,aS,aR];rw[uf,Z5,n6,n6,n6,m1,m2];rfl
theorem Pp{a k:List Nat}(v0 v1 v2 v3 v4:Sl):∀(cs:List Nat)(v7:Sl),(∀c∈cs,c<a.length/\c<k.length)->
  ((∀c∈cs,a.getD c 0=k.getD c 0)/\∃w7,turns (bf 7) Up (ah cs) [v0,v1,v2,v3,v4,.pu (tN a),.pu (tN k),v7]=.nx [v0,v1,v2,v3,v4,.pu (tN a),.pu (tN k),w7])\/
  ∃c∈cs,a.getD c 0≠k.getD c 0/\turns (bf 7) Up (ah cs) [v0,v1,v2,v3,v4,.pu (tN a),.pu (tN k),v7]=.rt (AG c (min (k.getD c 0) (a.getD c 0)) (max (k.getD c 0) (a.getD c 0)))
 |[],v7,_=>.inl ⟨(λc hc=>by cases hc),v7,rfl⟩
 |c::cs,v7,h=>by
  obtain⟨h1,h2⟩:=h c aN;have e:=IK h1 h2 v0 v1 v2 v3 v4;have et:turns (bf 7) Up (ah (c::cs)) [v0,v1,v2,v3,v4,.pu (tN a),.pu (tN k),v7]=match Up [v0,v1,v2,v3,v4,.pu (tN a),.pu (tN k),.pu (.int (c:Int))]with
   |.nx δ'=>turns (bf 7) Up (ah cs) δ'
   |.ct δ'=>turns (bf 7) Up (ah cs) δ'
   |.bk δ'=>.nx δ'
   |.rt d=>.rt d
   |.er c=>.er c
   |.st=>.st:=di rfl
  rw[et,e]
  by_cases hx:a.getD c 0=k.getD c 0
  ·rw[aG hx];rcases Pp v0 v1 v2 v3 v4 cs (.pu (.int (c:Int))) (λd hd=>h d (aK _ hd))with ⟨q1,w7,q2⟩|⟨d,hd,q1,q2⟩
   ·refine .inl ⟨λd hd=>?_,w7,q2⟩;rcases List.mem_cons.mp hd with rfl|hd
    ·exact hx
    ·exact q1 d hd
   ·exact .inr ⟨d,aK _ hd,q1,q2⟩
  ·rw[aJ hx];exact .inr ⟨c,aN,hx,rfl⟩
def vd(L R:List Nat)(T:List (List Nat)):Prop:=∀a∈T,∀b∈T,ie a L=ie b L->∀c∈R,a.getD c 0=b.getD c 0
structure CInv(L R:List Nat)(kvs:List (Pu.D×Pu.D))(pre:List (List Nat)):Prop where
 a:∀x∈pre,∃y∈pre,fm kvs (nK (ie x L))=some (tN y)/\∀c∈R,x.getD c 0=y.getD c 0
 b:∀j d,fm kvs j=some d->∃y∈pre,d=tN y/\j=nK (ie y L)
def GJ(n:Nat):En->Out:=(bj (fz [5] (ot 6 (ju 4 (aj (af (tab n) kq) (ae (aa 5) (ae (aa 2) ai))) (ao 5))))
 (fz [3] (gf (bf 7) (ba (yz 3)) Up)))
section
variable{m:Nat}{L R:List Nat}
def IJ(n:Nat){a:List Nat}(hL:∀c∈L,c<a.length)(hl:L.length<=1000){kvs:List (Pu.D×Pu.D)}(hk:kvs.length<16777216)(v0 v1 v6 v7:Sl):
  ∃y kvs',((fm kvs (nK (ie a L))=some (tN y)/\kvs'=kvs)\/(fm kvs (nK (ie a L))=none/\y=a/\kvs'=kvs++[(kT (nK (ie a L)),tN a)])\/∃d,fm kvs (nK (ie a L))=some d/\∀y,d≠tN y)/\
  ((∃z,fm kvs (nK (ie a L))=some (tN z))\/fm kvs (nK (ie a L))=none->GJ (n+1) [v0,v1,.pu (tN L),.pu (tN R),.od true kvs,.pu (tN a),v6,v7]=turns (bf 7) Up (ah R) [v0,v1,.pu (tN L),.pu (tN R),.od true kvs',.pu (tN a),.pu (tN y),v7]):=by
 have p:=Th n hL hl;have hsl:kvs.length<aQ:=hk;have ky:d7 (tN (ie a L))=some (nK (ie a L)):=ze _;have g0:aj (af (tab (n+1)) kq) (ae (aa 5) (ae (aa 2) ai)) [v0,v1,.pu (tN L),.pu (tN R),.od true kvs,.pu (tN a),v6,v7]=.ok (tN (ie a L)):=bb (ds:=[tN a,tN L]) rfl p;have s2:∀kvs' y,fz [3] (gf (bf 7) (ba (yz 3)) Up) [v0,v1,.pu (tN L),.pu (tN R),.od true kvs',.pu (tN a),.pu (tN y),v7]=turns (bf 7) Up (ah R) [v0,v1,.pu (tN L),.pu (tN R),.od true kvs',.pu (tN a),.pu (tN y),v7]:=λkvs' y=>by
  simp only[mn,b9,ik,aS,aR];exact ig rfl
 cases e:fm kvs (nK (ie a L))with
 |none=>
  refine⟨a,kvs++[(kT (nK (ie a L)),tN a)],.inr (.inl ⟨rfl,rfl,rfl⟩),λ_=>?_⟩;have es:ot 6 (ju 4 (aj (af (tab (n+1)) kq) (ae (aa 5) (ae (aa 2) ai))) (ao 5)) [v0,v1,.pu (tN L),.pu (tN R),.od true kvs,.pu (tN a),v6,v7]=.nx [v0,v1,.pu (tN L),.pu (tN R),.od true (kvs++[(kT (nK (ie a L)),tN a)]),.pu (tN a),.pu (tN a),v7]:=by
   unfold ot ju;simp only[aR,aS,g0,HG,ky,hsl,if_true,e,Yk e,dZ,eU]
  unfold GJ;rw[bz];simp only[mn,b9,ik,aS,aR];rw[es];exact s2 _ _
 |some d=>
  by_cases h:∃y,d=tN y
  ·obtain⟨y,rfl⟩:=h;refine⟨y,kvs,.inl ⟨rfl,rfl⟩,λ_=>?_⟩;have es:ot 6 (ju 4 (aj (af (tab (n+1)) kq) (ae (aa 5) (ae (aa 2) ai))) (ao 5)) [v0,v1,.pu (tN L),.pu (tN R),.od true kvs,.pu (tN a),v6,v7]=.nx [v0,v1,.pu (tN L),.pu (tN R),.od true kvs,.pu (tN a),.pu (tN y),v7]:=by
    unfold ot ju;simp only[aR,aS,g0,HG,ky,hsl,if_true,e,dZ,eU]
   unfold GJ;rw[bz];simp only[mn,b9,ik,aS,aR];rw[es];exact s2 _ _
  ·refine⟨a,kvs,.inr (.inr ⟨d,rfl,λy z=>h ⟨y,z⟩⟩),λz=>?_⟩;rcases z with ⟨z,q⟩|q
   ·cases q;exact absurd ⟨z,rfl⟩ h
   ·cases q
def OQ(m:Nat)(T:List (List Nat))(d:Pu.D):Prop:=∃c x y,d=AG c x y/\c<m/\x<y/\∃a∈T,a.getD c 0=y
def JS{T:List (List Nat)}{a k:List Nat}{c:Nat}(hc:c<m)(ha:a∈T)(hk:k∈T)(h:a.getD c 0≠k.getD c 0):OQ m T (AG c (min (k.getD c 0) (a.getD c 0)) (max (k.getD c 0) (a.getD c 0))):=by
 refine⟨c,_,_,rfl,hc,by lia,?_⟩;rcases mY h with z|z
 ·exact⟨k,hk,by lia⟩
 ·exact⟨a,ha,by lia⟩
def AH(n:Nat)(v0 v1:Sl){T:List (List Nat)}(hT:∀a∈T,a.length=m)(l:∀c∈L,c<m)(r:∀c∈R,c<m)(ll:L.length<=1000):∀(as pre:List (List Nat))(kvs:List (Pu.D×Pu.D))(v5 v6 v7:Sl),pre++as=T->CInv L R kvs pre->kvs.length+as.length<=1000->
  (∃kvs' w5 w6 w7,turns (bf 5) (GJ (n+1)) (as.map tN) [v0,v1,.pu (tN L),.pu (tN R),.od true kvs,v5,v6,v7]=.nx [v0,v1,.pu (tN L),.pu (tN R),.od true kvs',w5,w6,w7]/\CInv L R kvs' T)\/
  ∃d,turns (bf 5) (GJ (n+1)) (as.map tN) [v0,v1,.pu (tN L),.pu (tN R),.od true kvs,v5,v6,v7]=.rt d/\OQ m T d:=by
 intro as;induction as with
 |nil=>
  intro pre kvs v5 v6 v7 e I _;rw[cA]at e;subst e;exact .inl ⟨kvs,v5,v6,v7,rfl,I⟩
 |cons a as ih=>
  intro pre kvs v5 v6 v7 e I hl;rw[aE]at hl;have haT:a∈T:=by rw[<-e];simp
  have ha:=hT a haT;have e':(pre++[a])++as=T:=by rw[<-e];simp
  obtain⟨y,kvs',hc,hb⟩:=IJ n (L:=L) (R:=R) (a:=a) (λc hc=>by rw[ha];exact l c hc) ll (kvs:=kvs) (by lia) v0 v1 v6 v7;rw[aV,di (δ1:=[v0,v1,.pu (tN L),.pu (tN R),.od true kvs,.pu (tN a),v6,v7]) rfl];have key:(∀c∈R,a.getD c 0=y.getD c 0)->y∈pre++[a]->CInv L R kvs' (pre++[a])/\kvs'.length<=kvs.length+1:=λhR hy=>by
   rcases hc with ⟨q1,q2⟩|⟨q1,q2,q3⟩|⟨d,q1,q2⟩
   ·subst q2;obtain⟨z,hz,z1,z2⟩:=I.b _ _ q1;have:y=z:=O0 z1;subst this;refine⟨⟨λx hx=>?_,λj d hj=>?_⟩,fZ _⟩
    ·rcases List.mem_append.mp hx with hx|hx
     ·obtain⟨w,hw,w1,w2⟩:=I.a x hx;exact⟨w,bW _ hw,w1,w2⟩
     ·rw[List.mem_singleton.mp hx];exact⟨y,hy,q1,hR⟩
    ·obtain⟨w,hw,w1⟩:=I.b j d hj;exact⟨w,bW _ hw,w1⟩
   ·subst q2 q3;refine⟨⟨λx hx=>?_,λj d hj=>?_⟩,by simp⟩
    ·rcases List.mem_append.mp hx with hx|hx
     ·obtain⟨w,hw,w1,w2⟩:=I.a x hx;refine⟨w,bW _ hw,?_,w2⟩;rw[qo q1]
      by_cases z:nK (ie x L)=nK (ie y L)
      ·rw[z,q1]at w1;cases w1
      ·rw[aJ z];exact w1
     ·rw[List.mem_singleton.mp hx];exact⟨y,hy,by rw[qo q1,aG rfl],hR⟩
    ·rw[qo q1]at hj
     by_cases z:j=nK (ie y L)
     ·rw[aG z]at hj;exact⟨y,by simp,(bS hj).symm,z⟩
     ·rw[aJ z]at hj;obtain⟨w,hw,w1⟩:=I.b j d hj;exact⟨w,bW _ hw,w1⟩
   ·obtain⟨z,_,z1,_⟩:=I.b _ _ q1;exact absurd z1 (q2 z)
  have hyT:y∈pre++[a]/\((∃z,fm kvs (nK (ie a L))=some (tN z))\/fm kvs (nK (ie a L))=none):=by
   rcases hc with ⟨q1,q2⟩|⟨q1,q2,q3⟩|⟨d,q1,q2⟩
   ·obtain⟨z,hz,z1,z2⟩:=I.b _ _ q1;rw[O0 z1];exact⟨bW _ hz,.inl ⟨y,q1⟩⟩
   ·rw[q2];exact⟨by simp,.inr q1⟩
   ·obtain⟨z,_,z1,_⟩:=I.b _ _ q1;exact absurd z1 (q2 z)
  have hyT2:y∈T:=by rw[<-e'];exact bW _ hyT.1
  rw[hb hyT.2];rcases Pp (a:=a) (k:=y) v0 v1 (.pu (tN L)) (.pu (tN R)) (.od true kvs') R v7 (λc hc=>⟨by rw[ha];exact r c hc,by rw[hT y hyT2];exact r c hc⟩)with ⟨q1,w7,q2⟩|⟨c,hcR,q1,q2⟩
  ·rw[q2];obtain⟨I',hl'⟩:=key q1 hyT.1;exact ih (pre++[a]) kvs' _ _ _ e' I' (by lia)
  ·rw[q2];exact .inr ⟨_,rfl,JS (r c hcR) haT hyT2 q1⟩
def CInv.kept{kvs:List (Pu.D×Pu.D)}{T:List (List Nat)}(I:CInv L R kvs T):vd L R T:=λa ha b hb h c hc=>by
 obtain⟨y,_,y1,y2⟩:=I.a a ha;obtain⟨z,_,z1,z2⟩:=I.a b hb;rw[h,z1]at y1;rw[y2 c hc,z2 c hc,O0 (bS y1)]
end
section
variable{m:Nat}{bs:List Bd}{T:List (List Nat)}
def II(n:Nat):En->Out:=(bj (Ig 4) (fz [1] (gf (bf 5) (ba (yz 1)) (GJ n))))
theorem Pr(n:Nat)(v0:Sl)(hT:∀a∈T,a.length=m)(hl:T.length<=900):∀(B:List Bd)(v2 v3 v4 v5 v6 v7:Sl),(∀b∈B,GoodB m b)->m<=100->
  ((∀b∈B,vd b.1 b.2 T)/\∃w2 w3 w4 w5 w6 w7,turns (kr [2,3]) (II (n+1)) (B.map p8) [v0,.bo (.lst (T.map tN)),v2,v3,v4,v5,v6,v7]=.nx [v0,.bo (.lst (T.map tN)),w2,w3,w4,w5,w6,w7])\/
  ∃d,turns (kr [2,3]) (II (n+1)) (B.map p8) [v0,.bo (.lst (T.map tN)),v2,v3,v4,v5,v6,v7]=.rt d/\OQ m T d
 |[],v2,v3,v4,v5,v6,v7,_,_=>.inl ⟨(λb hb=>by cases hb),v2,v3,v4,v5,v6,v7,rfl⟩
 |b::B,v2,v3,v4,v5,v6,v7,hB,hm=>by
  have g:=hB b aN;have hb:II (n+1) [v0,.bo (.lst (T.map tN)),.pu (tN b.1),.pu (tN b.2),v4,v5,v6,v7]=turns (bf 5) (GJ (n+1)) (T.map tN) [v0,.bo (.lst (T.map tN)),.pu (tN b.1),.pu (tN b.2),.od true [],v5,v6,v7]:=by
   unfold II;rw[bz];show fz [1] (gf (bf 5) (ba (yz 1)) (GJ (n+1))) [v0,.bo (.lst (T.map tN)),.pu (tN b.1),.pu (tN b.2),.od true [],v5,v6,v7]=_;simp only[mn,b9,ik,aS,aR];exact ig rfl
  rw[aV,di (δ1:=[v0,.bo (.lst (T.map tN)),.pu (tN b.1),.pu (tN b.2),v4,v5,v6,v7]) rfl,hb];have l1:=g.l.len;rcases AH n v0 (.bo (.lst (T.map tN))) hT g.l.lt g.r.lt (by lia) T [] [] v5 v6 v7 rfl ⟨(by intro x hx;cases hx),(by intro j d h;cases h)⟩ (by simp;lia)with ⟨kvs',w5,w6,w7,q,I⟩|⟨d,q,h⟩
  ·rw[q];rcases Pr n v0 hT hl B (.pu (tN b.1)) (.pu (tN b.2)) (.od true kvs') w5 w6 w7 (λc hc=>hB c (aK _ hc)) hm with ⟨k1,k2⟩|k
   ·refine .inl ⟨λc hc=>?_,k2⟩;rcases List.mem_cons.mp hc with rfl|hc
    ·exact I.kept
    ·exact k1 c hc
   ·exact .inr k
  ·rw[q];exact .inr ⟨d,rfl,h⟩
def Jo(n:Nat)(hT:∀a∈T,a.length=m)(hl:T.length<=900)(g:∀b∈bs,GoodB m b)(hm:m<=100):
  (af (tab (n+2)) jr [a9 bs,.lst (T.map tN)]=.ok .non/\∀b∈bs,vd b.1 b.2 T)\/∃d,af (tab (n+2)) jr [a9 bs,.lst (T.map tN)]=.ok d/\OQ m T d:=by
 rw[BZ (n+1)];show(cn (A3 (n+1) [.bo (a9 bs),.bo (.lst (T.map tN)),.no,.no,.no,.no,.no,.no])=_/\_)\/∃d,cn (A3 (n+1) [.bo (a9 bs),.bo (.lst (T.map tN)),.no,.no,.no,.no,.no,.no])=_/\_;have hb:A3 (n+1) [.bo (a9 bs),.bo (.lst (T.map tN)),.no,.no,.no,.no,.no,.no]=match turns (kr [2,3]) (II (n+1)) (bs.map p8) [.bo (a9 bs),.bo (.lst (T.map tN)),.no,.no,.no,.no,.no,.no]with
   |.nx δ'=>cq (gC .non) δ'
   |o=>o:=by
  show(bj (fz [0] (gf (kr [2,3]) (ba (yz 0)) (II (n+1)))) (cq (gC .non))) [.bo (a9 bs),.bo (.lst (T.map tN)),.no,.no,.no,.no,.no,.no]=_;rw[bz];simp only[mn,b9,ik,aS,aR];rw[ig (ds:=bs.map p8) rfl]<;>(cases turns (kr [2,3]) (II (n+1)) (bs.map p8) [.bo (a9 bs),.bo (.lst (T.map tN)),.no,.no,.no,.no,.no,.no]<;>rfl)
 rw[hb];rcases Pr n (.bo (a9 bs)) hT hl bs .no .no .no .no .no .no g hm with ⟨k1,w2,w3,w4,w5,w6,w7,q⟩|⟨d,q,h⟩
 ·rw[q];exact .inl ⟨rfl,k1⟩
 ·rw[q];exact .inr ⟨d,rfl,h⟩
def low(c x y:Nat)(a:List Nat):List Nat:=a.set c (if a.getD c 0=y then x else a.getD c 0)
def CK(c x y:Nat)(a:List Nat):(low c x y a).length=a.length:=by unfold low;simp
def CL{c x y:Nat}{a:List Nat}(hc:c<a.length)(e:Nat):(low c x y a).getD e 0=if e=c/\a.getD c 0=y then x else a.getD e 0:=by
 unfold low;rw[bR,List.getElem?_set]
 by_cases h:c=e
 ·subst h;rw[aG rfl,aG hc,Option.getD_some]
  by_cases hy:a.getD c 0=y
  ·rw[aG hy,aG ⟨rfl,hy⟩]
  ·rw[aJ hy,aJ (λz=>hy z.2)]
 ·rw[aJ h,aJ (λz=>h z.1.symm),bR]
def AD{ds:List Pu.D}{p:Nat}:uu (.tup ds) none (some (p:Int))=some (.tup (ds.take p)):=by
 show some (Pu.D.tup (Jr ds none (some (p:Int))))=_;unfold Jr;rw[HT.Lu,HT.Q1,List.drop_zero,Nat.sub_zero]
 congr 2
 rw[<-List.take_eq_take_min]
def Sa{ds:List Pu.D}{p:Nat}(h:p<ds.length):uu (.tup ds) (some ((p:Int)+1)) none=some (.tup (ds.drop (p+1))):=by
 have e:((p:Int)+1)=((p+1:Nat):Int):=by lia
 show some (Pu.D.tup (Jr ds (some ((p:Int)+1)) none))=_;unfold Jr;rw[e,HT.Lu,HT.Q1]
 congr 2
 rw[Nat.min_eq_left (by lia),kN (by rw[dH];lia)]
def Uy{a b:List Nat}(h:a.length+b.length<=1000):bx (tN a) (tN b)=some (tN (a++b)):=by
 show(if(ah a).length+(ah b).length<=aQ then some (Pu.D.tup (ah a++ah b))else none)=_;rw[aG (by rw[gp,gp,cD];lia)];unfold tN;rw[mr]
def TU:En->Out:=(bj (fz [2] (fj 6 (Mo (g2 jw (g2 br (aa 5) (aa 1)) (aa 3)) (ao 2) (g2 br (aa 5) (aa 1)))))
 (fz [6] (pq 4 (g2 bx (g2 bx (Wg (aa 5) none (some (ao 1))) (ia (ae (ao 6) ai))) (Wg (aa 5) (some (g2 bx (aa 1) (gC (.int 1)))) none)))))
def OR{a:List Nat}{c x y:Nat}{P:List (List Nat)}(hc:c<a.length)(ha:a.length<=100)(hP:P.length<=1000)(v0 v6:Sl):TU [v0,.pu (.int (c:Int)),.pu (.int (x:Int)),.bo (.int (y:Int)),.ow (P.map tN),.pu (tN a),v6]=.nx [v0,.pu (.int (c:Int)),.pu (.int (x:Int)),.bo (.int (y:Int)),.ow ((P++[low c x y a]).map tN),.pu (tN a),.pu (.int (((if a.getD c 0=y then x else a.getD c 0):Nat):Int))]:=by
 generalize hz:(if a.getD c 0=y then x else a.getD c 0)=z;have s1:Mo (g2 jw (g2 br (aa 5) (aa 1)) (aa 3)) (ao 2) (g2 br (aa 5) (aa 1)) [v0,.pu (.int (c:Int)),.pu (.int (x:Int)),.bo (.int (y:Int)),.ow (P.map tN),.pu (tN a),v6]=.ok (.int (z:Int)):=by
  have e1:g2 br (aa 5) (aa 1) [v0,.pu (.int (c:Int)),.pu (.int (x:Int)),.bo (.int (y:Int)),.ow (P.map tN),.pu (tN a),v6]=.ok (.int ((a.getD c 0:Nat):Int)):=by
   show Res.of (br (tN a) (.int (c:Int)))=_;rw[Qd hc];rfl
  have e2:g2 jw (g2 br (aa 5) (aa 1)) (aa 3) [v0,.pu (.int (c:Int)),.pu (.int (x:Int)),.bo (.int (y:Int)),.ow (P.map tN),.pu (tN a),v6]=.ok (.bl (decide (a.getD c 0=y))):=by
   rw[rf,e1];have:jw (.int ((a.getD c 0:Nat):Int)) (.int (y:Int))=some (.bl (((a.getD c 0:Nat):Int)==(y:Int))):=by simp
   show Res.of (jw (.int ((a.getD c 0:Nat):Int)) (.int (y:Int)))=_;rw[this];show Res.ok _=_
   congr 2
   by_cases h:a.getD c 0=y
   ·rw[decide_eq_true h,h];simp
   ·rw[decide_eq_false h];exact beq_eq_false_iff_ne.mpr λw=>h (by lia)
  rw[HH,e2,bq]
  by_cases h:a.getD c 0=y
  ·rw[aG h]at hz;rw[decide_eq_true h,<-hz];rfl
  ·rw[aJ h]at hz;rw[decide_eq_false h,<-hz];exact e1
 unfold TU;rw[bz];simp only[mn,b9,ik,aS,aR];rw[iw,s1,bp];show fz [6] (pq 4 _) [v0,.pu (.int (c:Int)),.pu (.int (x:Int)),.bo (.int (y:Int)),.ow (P.map tN),.pu (tN a),.pu (.int (z:Int))]=_;simp only[mn,b9,ik,aS,aR];have hn:(ah a).length=a.length:=gp a;have a1:Wg (aa 5) none (some (ao 1)) [v0,.pu (.int (c:Int)),.pu (.int (x:Int)),.bo (.int (y:Int)),.ow (P.map tN),.pu (tN a),.pu (.int (z:Int))]=.ok (tN (a.take c)):=by
  show Res.of (uu (.tup (ah a)) none (some (c:Int)))=_;rw[AD];unfold tN ah;rw[jN];rfl
 have a2:Wg (aa 5) (some (g2 bx (aa 1) (gC (.int 1)))) none [v0,.pu (.int (c:Int)),.pu (.int (x:Int)),.bo (.int (y:Int)),.ow (P.map tN),.pu (tN a),.pu (.int (z:Int))]=.ok (tN (a.drop (c+1))):=by
  show Res.of (uu (.tup (ah a)) (some ((c:Int)+1)) none)=_;rw[Sa (by lia)];unfold tN ah;rw[jO];rfl
 have a3:ia (ae (ao 6) ai) [v0,.pu (.int (c:Int)),.pu (.int (x:Int)),.bo (.int (y:Int)),.ow (P.map tN),.pu (tN a),.pu (.int (z:Int))]=.ok (tN [z]):=rfl;have a4:g2 bx (g2 bx (Wg (aa 5) none (some (ao 1))) (ia (ae (ao 6) ai))) (Wg (aa 5) (some (g2 bx (aa 1) (gC (.int 1)))) none) [v0,.pu (.int (c:Int)),.pu (.int (x:Int)),.bo (.int (y:Int)),.ow (P.map tN),.pu (tN a),.pu (.int (z:Int))]=.ok (tN (low c x y a)):=by
  rw[rf,rf,a1,a3];dsimp only[bq];rw[Uy (by rw[dS];simp;lia),g9,bq,a2,bq,Uy (by rw[aZ,dS,dH];simp;lia)];unfold low;rw[hz,List.set_eq_take_append_cons_drop,aG hc,dM];rfl
 have hap:pq 4 (g2 bx (g2 bx (Wg (aa 5) none (some (ao 1))) (ia (ae (ao 6) ai))) (Wg (aa 5) (some (g2 bx (aa 1) (gC (.int 1)))) none)) [v0,.pu (.int (c:Int)),.pu (.int (x:Int)),.bo (.int (y:Int)),.ow (P.map tN),.pu (tN a),.pu (.int (z:Int))]=(Res.ok (tN (low c x y a))).then λd=>if(P.map tN).length<aQ then Out.nx [v0,.pu (.int (c:Int)),.pu (.int (x:Int)),.bo (.int (y:Int)),.ow (P.map tN++[d]),.pu (tN a),.pu (.int (z:Int))]else .st:=by
  rw[<-a4];rfl
 rw[hap,bp,aG (by rw[aO,cD];lia),dD];rfl
theorem Rk{c x y:Nat}(v0:Sl):∀(as P:List (List Nat))(v5 v6:Sl),(∀a∈as,a.length=m)->c<m->m<=100->P.length+as.length<=1000->
  ∃w5 w6,turns (bf 5) TU (as.map tN) [v0,.pu (.int (c:Int)),.pu (.int (x:Int)),.bo (.int (y:Int)),.ow (P.map tN),v5,v6]=.nx [v0,.pu (.int (c:Int)),.pu (.int (x:Int)),.bo (.int (y:Int)),.ow ((P++as.map (low c x y)).map tN),w5,w6]
 |[],P,v5,v6,_,_,_,_=>⟨v5,v6,by rw[kL,kL,cA];rfl⟩
 |a::as,P,v5,v6,h,hc,hm,hl=>by
  rw[aE]at hl;have ha:=h a aN;rw[aV,di (δ1:=[v0,.pu (.int (c:Int)),.pu (.int (x:Int)),.bo (.int (y:Int)),.ow (P.map tN),.pu (tN a),v6]) rfl,OR (by lia) (by lia) (by lia)];obtain⟨w5,w6,q⟩:=Rk (x:=x) (y:=y) v0 as (P++[low c x y a]) (.pu (tN a)) (.pu (.int (((if a.getD c 0=y then x else a.getD c 0):Nat):Int))) (λb hb=>h b (aK _ hb)) hc hm (by rw[aZ];simp;lia);refine⟨w5,w6,?_⟩;have e:P++(a::as).map (low c x y)=P++[low c x y a]++as.map (low c x y):=by simp
  rw[e];exact q
def KO(n:Nat){c x y:Nat}(hT:∀a∈T,a.length=m)(hc:c<m)(hm:m<=100)(hl:T.length<=900):af (tab (n+1)) e8 [.lst (T.map tN),.int (c:Int),.int (x:Int),.int (y:Int)]=.ok (.lst ((T.map (low c x y)).map tN)):=by
 rw[xh n];show cn (oj n [.bo (.lst (T.map tN)),.pu (.int (c:Int)),.pu (.int (x:Int)),.bo (.int (y:Int)),.no,.no,.no])=_;obtain⟨w5,w6,q⟩:=Rk (x:=x) (y:=y) (.bo (.lst (T.map tN))) T [] .no .no hT hc hm (by simp;lia);have s1:fz [0] (gf (bf 5) (ba (yz 0)) TU) [.bo (.lst (T.map tN)),.pu (.int (c:Int)),.pu (.int (x:Int)),.bo (.int (y:Int)),.ow [],.no,.no]=.nx [.bo (.lst (T.map tN)),.pu (.int (c:Int)),.pu (.int (x:Int)),.bo (.int (y:Int)),.ow ((T.map (low c x y)).map tN),w5,w6]:=by
  simp only[mn,b9,ik,aS,aR];rw[ig (ds:=T.map tN) rfl];exact q
 have s0:fw 4 (ft ai) [.bo (.lst (T.map tN)),.pu (.int (c:Int)),.pu (.int (x:Int)),.bo (.int (y:Int)),.no,.no,.no]=.nx [.bo (.lst (T.map tN)),.pu (.int (c:Int)),.pu (.int (x:Int)),.bo (.int (y:Int)),.ow [],.no,.no]:=rfl;show cn ((bj (fw 4 (ft ai)) (bj (fz [0] (gf (bf 5) (ba (yz 0)) TU)) (fz [4] (cq (ao 4))))) [.bo (.lst (T.map tN)),.pu (.int (c:Int)),.pu (.int (x:Int)),.bo (.int (y:Int)),.no,.no,.no])=_;rw[bz,s0];dsimp only;rw[bz,s1];rfl
structure ZI(m:Nat)(W T:List (List Nat)):Prop where
 len:T.length=W.length
 w:∀a∈T,a.length=m
 z:∀(i:Nat) p a,W[i]?=some p->T[i]?=some a->∀c∈p,a.getD c 0=0
theorem ZI.low{W:List (List Nat)}{c x y:Nat}(I:ZI m W T)(hc:c<m)(h:x<y):ZI m W (T.map (low c x y)):=by
 refine⟨by rw[aO];exact I.len,λa ha=>?_,λi p a hp ha e he=>?_⟩
 ·obtain⟨b,hb,rfl⟩:=List.mem_map.mp ha;rw[CK];exact I.w b hb
 ·rw[bM]at ha;cases hb:T[i]? with
  |none=>rw[hb]at ha;cases ha
  |some b=>
   rw[hb]at ha;cases ha;have hl:=I.w b (bF hb);have hz:=I.z i p b hp hb e he;rw[CL (by lia)]
   by_cases h2:e=c/\b.getD c 0=y
   ·rw[h2.1,h2.2]at hz;lia
   ·rw[aJ h2];exact hz
def Mf(T:List (List Nat)):Nat:=(T.map List.sum).sum
theorem Q5:∀(a:List Nat)(c v:Nat),c<a.length->(a.set c v).sum+a.getD c 0=a.sum+v
 |[],c,v,h=>by simp at h
 |x::a,0,v,_=>by simp;lia
 |x::a,c+1,v,h=>by
  have ih:=Q5 a c v (by simpa using h);rw[dZ,nQ,nQ,List.getD_cons_succ]
  lia
def CI{c x y:Nat}{a:List Nat}(hc:c<a.length)(h:x<y):(low c x y a).sum<=a.sum/\(a.getD c 0=y->(low c x y a).sum<a.sum):=by
 unfold low;have:=Q5 a c (if a.getD c 0=y then x else a.getD c 0) hc
 by_cases e:a.getD c 0=y
 ·rw[aG e]at this⊢;rw[e]at this;exact⟨by lia,λ_=>by lia⟩
 ·rw[aJ e]at this⊢;exact⟨by lia,λz=>absurd z e⟩
theorem Ra{c x y:Nat}(hc:c<m)(h:x<y):∀(T:List (List Nat)),(∀a∈T,a.length=m)->Mf (T.map (low c x y))<=Mf T/\((∃a∈T,a.getD c 0=y)->Mf (T.map (low c x y))<Mf T)
 |[],_=>⟨aH _,λ⟨a,ha,_⟩=>by cases ha⟩
 |b::T,hT=>by
  obtain⟨i1,i2⟩:=Ra hc h T λa ha=>hT a (aK _ ha);obtain⟨l1,l2⟩:=CI (a:=b) (by rw[hT b aN];exact hc) h;have e1:Mf ((b::T).map (low c x y))=(low c x y b).sum+Mf (T.map (low c x y)):=by unfold Mf;simp
  have e2:Mf (b::T)=b.sum+Mf T:=by unfold Mf;simp
  rw[e1,e2];refine⟨by lia,λ⟨a,ha,hy⟩=>?_⟩;rcases List.mem_cons.mp ha with rfl|ha
  ·have:=l2 hy;lia
  ·have:=i2 ⟨a,ha,hy⟩;lia
def TF:En->Res:=g2 jf (aa 2) (gC .non)
def QT(n:Nat):En->Out:=(bj (fj 1 (aj (af (tab n) e8) (ae (aa 1) (ae (g2 br (aa 2) (gC (.int 0))) (ae (g2 br (aa 2) (gC (.int 1))) (ae (g2 br (aa 2) (gC (.int 2))) ai))))))
 (fj 2 (aj (af (tab n) jr) (ae (aa 0) (ae (aa 1) ai)))))
theorem Ho(n:Nat){W:List (List Nat)}(g:∀b∈bs,GoodB m b)(hm:m<=100)(hW:W.length<=900):∀(k:Nat)(T:List (List Nat))(s1:Sl)(d:Pu.D)(fuel:Nat),ZI m W T->Mf T<=k->k<fuel->(s1=.bo (.lst (T.map tN))\/s1=.pu (.lst (T.map tN)))->(d=.non/\(∀b∈bs,vd b.1 b.2 T)\/OQ m T d)->
  ∃T' s',ZI m W T'/\(∀b∈bs,vd b.1 b.2 T')/\(s'=.bo (.lst (T'.map tN))\/s'=.pu (.lst (T'.map tN)))/\jb TF (QT (n+2)) fuel [.bo (a9 bs),s1,.pu d]=.nx [.bo (a9 bs),s',.pu .non]
 |k,T,s1,d,fuel,I,ht,hf,hs,.inl ⟨hd,hk⟩=>by
  obtain⟨f,rfl⟩:∃f,fuel=f+1:=⟨fuel - 1,by lia⟩;subst hd;exact⟨T,s1,I,hk,hs,rfl⟩
 |k,T,s1,d,fuel,I,ht,hf,hs,.inr h=>by
  obtain⟨f,rfl⟩:∃f,fuel=f+1:=⟨fuel - 1,by lia⟩;obtain⟨c,x,y,rfl,hc,hxy,ha⟩:=h;have hlt:=(Ra hc hxy T I.w).2 ha;have I':=I.low hc hxy;have ga:aa 1 [.bo (a9 bs),s1,.pu (AG c x y)]=.ok (.lst (T.map tN)):=by rcases hs with rfl|rfl<;>rfl
  have k1:aj (af (tab (n+2)) e8) (ae (aa 1) (ae (g2 br (aa 2) (gC (.int 0))) (ae (g2 br (aa 2) (gC (.int 1))) (ae (g2 br (aa 2) (gC (.int 2))) ai)))) [.bo (a9 bs),s1,.pu (AG c x y)]=.ok (.lst ((T.map (LK.low c x y)).map tN)):=by
   refine bb (ds:=[.lst (T.map tN),.int (c:Int),.int (x:Int),.int (y:Int)]) ?_ (KO (n+1) I.w hc hm (by rw[I.len];exact hW));rw[n6,ga];rfl
  unfold jb;have c1:TF [.bo (a9 bs),s1,.pu (AG c x y)]=.ok (.bl true):=rfl;rw[c1,bp];dsimp only;have b1:∀{d'},af (tab (n+2)) jr [a9 bs,.lst ((T.map (LK.low c x y)).map tN)]=.ok d'->QT (n+2) [.bo (a9 bs),s1,.pu (AG c x y)]=.nx [.bo (a9 bs),.pu (.lst ((T.map (LK.low c x y)).map tN)),.pu d']:=λ{d'} e=>by
   unfold QT;rw[bz,iw,k1,bp];show fj 2 _ [.bo (a9 bs),.pu (.lst ((T.map (LK.low c x y)).map tN)),.pu (AG c x y)]=_;rw[iw,bb (ds:=[a9 bs,.lst ((T.map (LK.low c x y)).map tN)]) rfl e];rfl
  rcases Jo n (bs:=bs) I'.w (by rw[I'.len];exact hW) g hm with ⟨q1,q2⟩|⟨d',q1,q2⟩
  ·rw[b1 q1];exact Ho n g hm hW (k - 1) _ _ _ f I' (by lia) (by lia) (.inr rfl) (.inl ⟨rfl,q2⟩)
  ·rw[b1 q1];exact Ho n g hm hW (k - 1) _ _ _ f I' (by lia) (by lia) (.inr rfl) (.inr q2)
termination_by k=>k
def BF(n:Nat){W:List (List Nat)}(g:∀b∈bs,GoodB m b)(h1:1<=m)(hm:m<=100)(hW:W.length<64)(I:ZI m W T)(ht:Mf T<1000000):
  ∃T' G:List (List Nat),ZI m W T'/\(∀b∈bs,vd b.1 b.2 T')/\(∀r,r∈G↔r∈T')/\G.length<=64/\af (tab (n+3)) js [a9 bs,.lst (T.map tN)]=.ok (.lst (G.map tN)):=by
 rw[G8 (n+2)];have main:∀d,af (tab (n+2)) jr [a9 bs,.lst (T.map tN)]=.ok d->(d=.non/\(∀b∈bs,vd b.1 b.2 T)\/OQ m T d)->∃T' G:List (List Nat),ZI m W T'/\(∀b∈bs,vd b.1 b.2 T')/\(∀r,r∈G↔r∈T')/\G.length<=64/\cn (w8 (n+2) [.bo (a9 bs),.bo (.lst (T.map tN)),.no])=.ok (.lst (G.map tN)):=λd e hd=>by
  obtain⟨T',s',I',hk,hs,q⟩:=Ho n (bs:=bs) g hm (by lia) (Mf T) T (.bo (.lst (T.map tN))) d Ge I (aH _) ht (.inl rfl) hd;have hne:∀r∈T',r≠[]:=λr hr z=>by
   have:=I'.w r hr;rw[z]at this;simp at this
   lia
  obtain⟨G,y1,y2,y3⟩:=yc hne (by rw[I'.len];exact hW);refine⟨T',G,I',hk,y2,by have:=I'.len;lia,?_⟩;have k1:aj (af (tab (n+2)) jr) (ae (aa 0) (ae (aa 1) ai)) [.bo (a9 bs),.bo (.lst (T.map tN)),.no]=.ok d:=bb (ds:=[a9 bs,.lst (T.map tN)]) rfl e;show cn ((bj (fj 2 (aj (af (tab (n+2)) jr) (ae (aa 0) (ae (aa 1) ai)))) (bj (fz [] (Yw TF (QT (n+2)))) (cq (g1 cf (aa 1))))) [.bo (a9 bs),.bo (.lst (T.map tN)),.no])=_;rw[bz,iw,k1,bp];show cn (bj _ _ [.bo (a9 bs),.bo (.lst (T.map tN)),.pu d])=_;rw[bz];simp only[b9];have q':Yw TF (QT (n+2)) [.bo (a9 bs),.bo (.lst (T.map tN)),.pu d]=.nx [.bo (a9 bs),s',.pu .non]:=q;rw[q'];dsimp only;have ga:aa 1 [.bo (a9 bs),s',.pu .non]=.ok (.lst (T'.map tN)):=by rcases hs with rfl|rfl<;>rfl
  rw[uf,Et,ga,bq,y1];rfl
 rcases Jo n (bs:=bs) I.w (by rw[I.len];lia) g hm with ⟨q1,q2⟩|⟨d',q1,q2⟩
 ·exact main _ q1 (.inl ⟨rfl,q2⟩)
 ·exact main _ q1 (.inr q2)
end
def Eu(G:List (List Nat))(p:List Nat):Bool:= !(G.any λq=> !decide (p=q) && sub p q)
def Pe{G:List (List Nat)}(hr:∀p∈G,p.Pairwise (· <·))(hl:∀p∈G,p.length<=100):∀(k:Nat)(p:List Nat),p∈G->100 - p.length<=k->∃w∈G.filter (Eu G),sub p w=true:=by
 intro k;induction k with
 |zero=>
  intro p hp hk;cases hw:Eu G p with
  |true=>exact⟨p,List.mem_filter.mpr ⟨hp,hw⟩,fb.mpr λc hc=>hc⟩
  |false=>
   unfold Eu at hw;rw[Bool.not_eq_false',oB]at hw;obtain⟨q,hq,h⟩:=hw;rw[aF,gU,decide_eq_false_iff_not]at h;have:=tj (hr p hp) (hr q hq) (fb.mp h.2) h.1;have:=hl q hq
   lia
 |succ k ih=>
  intro p hp hk;cases hw:Eu G p with
  |true=>exact⟨p,List.mem_filter.mpr ⟨hp,hw⟩,fb.mpr λc hc=>hc⟩
  |false=>
   unfold Eu at hw;rw[Bool.not_eq_false',oB]at hw;obtain⟨q,hq,h⟩:=hw;rw[aF,gU,decide_eq_false_iff_not]at h;have h1:=tj (hr p hp) (hr q hq) (fb.mp h.2) h.1;have h2:=hl q hq;obtain⟨w,hw,hs⟩:=ih q hq (by lia);exact⟨w,hw,T9 h.2 hs⟩
def Uo(n:Nat){P:List (List Nat)}(hne:∀r∈P,r≠[])(hl:P.length<64)(hc:∀r∈P,r.length<=100):
  ∃G:List (List Nat),(∀r,r∈G↔r∈P)/\G.length<=P.length/\af (tab (n+2)) m9 [.lst (P.map tN)]=.ok (.lst ((G.filter (Eu G)).map tN)):=by
 obtain⟨G,g1',g2',g3'⟩:=yc hne hl;refine⟨G,g2',g3',?_⟩;rw[Vw (n+1)];show cn (Bq (n+1) [.bo (.lst (P.map tN)),.no])=_;unfold Bq;have k1:g1 cf (aa 0) [.bo (.lst (P.map tN)),.no]=.ok (.lst (G.map tN)):=by
  show Res.of (cf (.lst (P.map tN)))=_;rw[g1'];rfl
 rw[bz,iw,k1,bp];show cn (cq (bw (ba (aa 1)) [1] (jt (mj (g1 vj (bw (ba (aa 1)) [0] (gC (.bl true)) (nh (g2 dh (aa 1) (aa 0)) (aj (af (tab (n+1)) ck) (ae (aa 1) (ae (aa 0) ai)))))))) (ao 0)) [.bo (.lst (P.map tN)),.pu (.lst (G.map tN))])=_;have inner:∀p∈G,bw (ba (aa 1)) [0] (gC (.bl true)) (nh (g2 dh (aa 1) (aa 0)) (aj (af (tab (n+1)) ck) (ae (aa 1) (ae (aa 0) ai)))) [.pu (tN p),.pu (.lst (G.map tN))]=.ok (.lst (G.map λq=>Pu.D.bl (!decide (p=q) && sub p q))):=λp hp=>by
  refine kn (f:=tN) (l:=G) rfl (by lia) λq hq=>?_;have e1:g2 dh (aa 1) (aa 0) [.pu (tN q),.pu (tN p)]=.ok (.bl (!decide (p=q))):=by
   show Res.of (dh (tN p) (tN q))=_;rw[N4];rfl
  have e2:aj (af (tab (n+1)) ck) (ae (aa 1) (ae (aa 0) ai)) [.pu (tN q),.pu (tN p)]=.ok (.bl (sub p q)):=bb (ds:=[tN p,tN q]) rfl (W6 n p q (by have:=hc p ((g2' p).mp hp);lia));show nh (g2 dh (aa 1) (aa 0)) (aj (af (tab (n+1)) ck) (ae (aa 1) (ae (aa 0) ai))) [.pu (tN q),.pu (tN p)]=_;generalize decide (p=q)=b1 at e1⊢;cases b1<;>simp only[Rg,e1,e2,bq]<;>rfl
 have outer:bw (ba (aa 1)) [1] (jt (mj (g1 vj (bw (ba (aa 1)) [0] (gC (.bl true)) (nh (g2 dh (aa 1) (aa 0)) (aj (af (tab (n+1)) ck) (ae (aa 1) (ae (aa 0) ai)))))))) (ao 0) [.bo (.lst (P.map tN)),.pu (.lst (G.map tN))]=.ok (.lst ((G.filter (Eu G)).map tN)):=by
  refine gr (l:=G) (f:=tN) (b:=Eu G) rfl (by lia) λp hp=>?_;have e:g1 vj (bw (ba (aa 1)) [0] (gC (.bl true)) (nh (g2 dh (aa 1) (aa 0)) (aj (af (tab (n+1)) ck) (ae (aa 1) (ae (aa 0) ai))))) [.pu (tN p),.pu (.lst (G.map tN))]=.ok (.bl (G.any λq=> !decide (p=q) && sub p q)):=by
   rw[Et,inner p hp,bq,AN];rfl
  show jt (mj (g1 vj _)) [.pu (tN p),.pu (.lst (G.map tN))]=_;rw[Rj,Mj,e];unfold Eu;cases G.any λq=> !decide (p=q) && sub p q<;>rfl
 rw[uf,outer];rfl
theorem Pf(v0:Sl):∀(P:List (List Nat))(C:List Nat)(v2:Sl),(∀p∈P,p.length<=100)->C.length+100 * P.length<=100000->∃w2,turns (bf 2) (uy 1 (aa 2)) (P.map tN) [v0,.ow (ah C),v2]=.nx [v0,.ow (ah (C++P.flatten)),w2]
 |[],C,v2,_,_=>⟨v2,by rw[List.flatten_nil,cA];rfl⟩
 |p::P,C,v2,h,hl=>by
  rw[aE]at hl;have hp:=h p aN;have x:uy 1 (aa 2) [v0,.ow (ah C),.pu (tN p)]=if(ah C).length+(ah p).length<=16777216 then Out.nx [v0,.ow (ah C++ah p),.pu (tN p)]else .st:=rfl
  rw[aV,di (δ1:=[v0,.ow (ah C),.pu (tN p)]) rfl,x,aG (by rw[gp,gp];lia),<-mr];obtain⟨w2,q⟩:=Pf v0 P (C++p) (.pu (tN p)) (λq hq=>h q (aK _ hq)) (by rw[aZ];lia);refine⟨w2,?_⟩;rw[fR,<-dM];exact q
def AO(n:Nat){P:List (List Nat)}(h6:∀p∈P,qp p)(hl:P.length<=100)(hc:∀p∈P,p.length<=100):af (tab (n+1)) jd [.lst (P.map tN)]=.ok (.lst (ah (Ja P.flatten))):=by
 rw[Ef n];show cn (u5 n [.bo (.lst (P.map tN)),.no,.no])=_;obtain⟨w2,q⟩:=Pf (.bo (.lst (P.map tN))) P [] .no hc (by simp;lia);have hf:qp P.flatten:=λc hc=>by
  obtain⟨p,hp,hcp⟩:=List.mem_flatten.mp hc;exact h6 p hp c hcp
 have s1:fz [0] (gf (bf 2) (ba (yz 0)) (uy 1 (aa 2))) [.bo (.lst (P.map tN)),.ow [],.no]=.nx [.bo (.lst (P.map tN)),.ow (ah P.flatten),w2]:=by
  simp only[mn,b9,ik,aS,aR];rw[ig (ds:=P.map tN) rfl];exact q
 show cn ((bj (fw 1 (ft ai)) (bj (fz [0] (gf (bf 2) (ba (yz 0)) (uy 1 (aa 2)))) (cq (g1 cf (aa 1))))) [.bo (.lst (P.map tN)),.no,.no])=_;have s0:fw 1 (ft ai) [.bo (.lst (P.map tN)),.no,.no]=.nx [.bo (.lst (P.map tN)),.ow [],.no]:=rfl;rw[bz,s0];dsimp only;rw[bz,s1];dsimp only;have ga:aa 1 [.bo (.lst (P.map tN)),.ow (ah P.flatten),w2]=.ok (.lst (ah P.flatten)):=rfl;rw[uf,Et,ga,bq,(we hf).1];rfl
def Uj{m:Nat}{S:List Nat}(h6:qp S)(h:∀c,c∈S↔c<m):Ja S=aW m:=
 wj (LK.riseF.pwl (Mh h6)) fE λc=>by rw[xt,h,List.mem_range]
def R9(n:Nat){m:Nat}{P:List (List Nat)}(h6:m<=6)(g:∀p∈P,Good m p)(hl:P.length<=100)(hall:∀c,c<m->∃p∈P,c∈p):af (tab (n+5)) g7 [.lst (P.map tN),.int (m:Int)]=.ok (.lst (P.map tN)):=by
 rw[Aw (n+4)];have hc:bw (ba (aa 0)) [1] (gC (.bl true)) (aj (af (tab (n+4)) d4) (ae (aa 0) (ae (ao 1) ai))) [.pu (.lst (P.map tN)),.pu (.int (m:Int))]=.ok (.lst (P.map λ_=>Pu.D.bl true)):=
  kn (f:=tN) rfl (by lia) λp hp=>by
   have e:=qf n (g p hp) (by lia);rw[ij]at e;show aj (af (tab (n+4)) d4) (ae (aa 0) (ae (ao 1) ai)) [.pu (tN p),.pu (.int (m:Int))]=_;exact bb (ds:=[tN p,.int (m:Int)]) rfl e
 have ha:=wx P;have l6:∀p∈P,qp p:=λp hp c hc=>by have:=(g p hp).lt c hc;lia
 have ea:=AO (n+3) l6 hl (λp hp=>by have:=(g p hp).len;lia);have hf:qp P.flatten:=λc hc=>by
  obtain⟨p,hp,hcp⟩:=List.mem_flatten.mp hc;exact l6 p hp c hcp
 rw[Uj hf (m:=m) λc=>⟨λh=>by
  obtain⟨p,hp,hcp⟩:=List.mem_flatten.mp h;exact(g p hp).lt c hcp,λh=>List.mem_flatten.mpr (hall c h)⟩]at ea
 have lt:mf (.int (m:Int)) (.int (m:Int))=some (.bl false):=by
  show some (Pu.D.bl (decide ((m:Int)<(m:Int))))=_;rw[decide_eq_false (by lia)]
 show cn (ly (n+4) [.pu (.lst (P.map tN)),.pu (.int (m:Int))])=_;have ea':af (tab (n+4)) jd [.lst (P.map tN)]=.ok (.lst (ah (aW m))):=ea;have ln:(ah (aW m)).length=m:=by rw[gp,dN]
 simp -implicitDefEqProofs [ly,hc,ha,ea',ln,lt]
def Q7(r:List Nat):fk (tN r)=some (.tuple ((iy r).map bY)):=by
 rw[<-ij];unfold tI fk;rw[zp]
theorem Md:∀R:List (List Nat),d8 (R.map tN)=some (R.map λr=>.tuple ((iy r).map bY))
 |[]=>rfl
 |r::R=>by rw[aV,d8,Md R,Q7];rfl
theorem W3:∀R:List (List Nat),bB (R.map λr=>.tuple ((iy r).map bY))=true
 |[]=>rfl
 |r::R=>by rw[aV,bB,W3 R,dI,xo];rfl
def QY(r:List Nat)(R:List (List Nat)):cg (tN r) (.lst (R.map tN))=some (.bl (decide (r∈R))):=by
 have e:xy (tN r) (.lst (R.map tN))=some (decide (r∈R)):=by
  show(match d8 (R.map tN),fk (tN r)with
   |some ps,some q=>if bB ps && cZ q then some (ps.any λy=>dB y q)else none
   |_,_=>none)=_
  rw[Md,Q7];dsimp only;rw[W3,wd (p:=.tuple ((iy r).map bY)) (xo _) (by show bV ((iy r).map bY)+1<=63;rw[B1];decide)];show some _=_
  congr 1
  induction R with
  |nil=>rfl
  |cons b R ih=>
   rw[aV,jL,ih,show dB (.tuple ((iy b).map bY)) (.tuple ((iy r).map bY))=decide (iy b=iy r)from Hc (iy b) (iy r)]
   by_cases q:r=b
   ·simp[q]
   ·have q':¬iy b=iy r:=λz=>q (xb z).symm;simp[q,q']
 show(xy (tN r) (.lst (R.map tN))).map Pu.D.bl=_;rw[e];rfl
def lh(m:Nat)(p:List Nat)(i:Nat):List Nat:=(aW m).map λc=>if c∈p then 0 else i
def fy(m:Nat):Nat->List (List Nat)->List (List Nat)
 |_,[]=>[]
 |i,p::W=>lh m p i::fy m (i+1) W
def UY:En->Out:=(fz [4] (pq 3 (g1 cu (bw (fx (ae (aa 1) ai)) [5,4] (gC (.bl true)) (Mo (g2 cg (aa 0) (aa 1)) (gC (.int 0)) (ao 2))))))
def NR{m i:Nat}{p:List Nat}{P:List (List Nat)}(hm:m<=1000)(hP:P.length<=1000)(v0 v2 v6:Sl):UY [v0,.pu (.int (m:Int)),v2,.ow (P.map tN),.pu (.int (i:Int)),.pu (tN p),v6]=.nx [v0,.pu (.int (m:Int)),v2,.ow ((P++[lh m p i]).map tN),.pu (.int (i:Int)),.pu (tN p),v6]:=by
 have hc:bw (fx (ae (aa 1) ai)) [5,4] (gC (.bl true)) (Mo (g2 cg (aa 0) (aa 1)) (gC (.int 0)) (ao 2)) [v0,.pu (.int (m:Int)),v2,.ow (P.map tN),.pu (.int (i:Int)),.pu (tN p),v6]=.ok (.lst ((aW m).map λc=>Pu.D.int (((if c∈p then 0 else i):Nat):Int))):=by
  have hr:fx (ae (aa 1) ai) [v0,.pu (.int (m:Int)),v2,.ow (P.map tN),.pu (.int (i:Int)),.pu (tN p),v6]=.ok (gz 0 m):=(ue (j':=(m:Int)) (hr:=rfl) (h:=⟨by lia,by lia⟩)).trans (by simp);refine Bx (m:=m) (f:=λc=>Pu.D.int (((if c∈p then 0 else i):Nat):Int)) hr (by lia) λj hj=>?_;have e0:(0+(j:Int))=(j:Int):=by lia
  rw[e0];have e1:g2 cg (aa 0) (aa 1) [.pu (.int (j:Int)),.pu (tN p),.pu (.int (i:Int))]=.ok (.bl (decide (j∈p))):=by
   show Res.of (cg (.int (j:Int)) (tN p))=_;rw[show cg (.int (j:Int)) (tN p)=some (.bl (decide (j∈p)))from Kj j p];rfl
  show Mo (g2 cg (aa 0) (aa 1)) (gC (.int 0)) (ao 2) [.pu (.int (j:Int)),.pu (tN p),.pu (.int (i:Int))]=_;rw[HH,e1,bq]
  by_cases h:j∈p
  ·rw[decide_eq_true h,aG h];rfl
  ·rw[decide_eq_false h,aJ h];rfl
 have ht:g1 cu (bw (fx (ae (aa 1) ai)) [5,4] (gC (.bl true)) (Mo (g2 cg (aa 0) (aa 1)) (gC (.int 0)) (ao 2))) [v0,.pu (.int (m:Int)),v2,.ow (P.map tN),.pu (.int (i:Int)),.pu (tN p),v6]=.ok (tN (lh m p i)):=by
  rw[Et,hc];show Res.ok (.tup _)=_;unfold lh tN ah;rw[dA];rfl
 unfold UY;simp only[mn,b9,ik,aS,aR];have hap:pq 3 (g1 cu (bw (fx (ae (aa 1) ai)) [5,4] (gC (.bl true)) (Mo (g2 cg (aa 0) (aa 1)) (gC (.int 0)) (ao 2)))) [v0,.pu (.int (m:Int)),v2,.ow (P.map tN),.pu (.int (i:Int)),.pu (tN p),v6]=(Res.ok (tN (lh m p i))).then λd=>if(P.map tN).length<aQ then Out.nx [v0,.pu (.int (m:Int)),v2,.ow (P.map tN++[d]),.pu (.int (i:Int)),.pu (tN p),v6]else .st:=by
  rw[<-ht];rfl
 rw[hap,bp,aG (by rw[aO,cD];lia),dD];rfl
theorem Q3{m:Nat}(hm:m<=1000)(v0 v2 v6:Sl):∀(W P:List (List Nat))(i:Nat)(v4 v5:Sl),P.length+W.length<=1000->
  ∃w4 w5,turns (kr [4,5]) UY (je i (W.map tN)) [v0,.pu (.int (m:Int)),v2,.ow (P.map tN),v4,v5,v6]=.nx [v0,.pu (.int (m:Int)),v2,.ow ((P++fy m i W).map tN),w4,w5,v6]
 |[],P,i,v4,v5,_=>⟨v4,v5,by rw[fy,cA];rfl⟩
 |p::W,P,i,v4,v5,hl=>by
  rw[aE]at hl;rw[aV,show je i (tN p::W.map tN)=.tup [.int (i:Int),tN p]::je (i+1) (W.map tN)from rfl,di (δ1:=[v0,.pu (.int (m:Int)),v2,.ow (P.map tN),.pu (.int (i:Int)),.pu (tN p),v6]) rfl,NR hm (by lia)];obtain⟨w4,w5,q⟩:=Q3 hm v0 v2 v6 W (P++[lh m p i]) (i+1) (.pu (.int (i:Int))) (.pu (tN p)) (by rw[aZ];simp;lia);refine⟨w4,w5,?_⟩;have e:P++fy m i (p::W)=P++[lh m p i]++fy m (i+1) W:=by rw[fy];simp
  rw[e];exact q
theorem Lr(m:Nat):∀(i:Nat)(W:List (List Nat)),(fy m i W).length=W.length
 |_,[]=>rfl
 |i,p::W=>by rw[fy,aE,aE,Lr m]
def EA{m i c:Nat}{p:List Nat}(hc:c<m):(lh m p i).getD c 0=if c∈p then 0 else i:=by
 unfold lh;rw[bR,bM,gZ hc];rfl
theorem Ie{m:Nat}:∀(i:Nat)(W:List (List Nat))(j:Nat)(a:List Nat),(fy m i W)[j]?=some a->∃p,W[j]?=some p/\a=lh m p (i+j)
 |_,[],j,a,h=>by simp[fy]at h
 |i,p::W,0,a,h=>by
  rw[fy]at h;simp at h;exact⟨p,rfl,h.symm⟩
 |i,p::W,j+1,a,h=>by
  rw[fy,aR]at h;obtain⟨q,h1,h2⟩:=Ie (i+1) W j a h;exact⟨q,by simpa using h1,by rw[h2];congr 1;lia⟩
def FZ{m:Nat}{W:List (List Nat)}(hW:∀p∈W,∀c∈p,c<m):ZI m W (fy m 1 W):=by
 refine⟨Lr m 1 W,λa ha=>?_,λi p a hp ha c hc=>?_⟩
 ·obtain⟨j,hj⟩:=List.mem_iff_getElem?.mp ha;obtain⟨p,_,rfl⟩:=Ie 1 W j a hj;unfold lh;rw[aO,dN]
 ·obtain⟨q,h1,h2⟩:=Ie 1 W i a ha;rw[hp]at h1;cases h1;rw[h2,EA (hW p (bF hp) c hc),aG hc]
theorem Zk{k:Nat}:∀(l:List Nat),(∀x∈l,x<=k)->l.sum<=l.length * k
 |[],_=>bX _
 |x::l,h=>by
  have:=Zk l λy hy=>h y (aK _ hy);have:=h x aN;rw[nQ,aE,Nat.add_mul,Nat.one_mul]
  lia
theorem Ls{m:Nat}(hm:m<=100):∀(W:List (List Nat))(i:Nat),i+W.length<=100->Mf (fy m i W)<=W.length * 10000
 |[],i,_=>bX _
 |p::W,i,h=>by
  rw[aE]at h;have ih:=Ls hm W (i+1) (by lia);have e:Mf (fy m i (p::W))=(lh m p i).sum+Mf (fy m (i+1) W):=by rw[fy];unfold Mf;simp
  have hs:(lh m p i).sum<=(lh m p i).length * 100:=Zk _ λx hx=>by
   unfold lh at hx;obtain⟨c,_,rfl⟩:=List.mem_map.mp hx;split<;>lia
  have hl:(lh m p i).length=m:=by unfold lh;rw[aO,dN]
  rw[hl]at hs;rw[e,aE,Nat.add_mul,Nat.one_mul]
  lia
section
variable{bs:List Bd}{T:List (List Nat)}
def PU{a b:List Nat}(keep:∀x∈bs,vd x.1 x.2 T)(ha:a∈T)(hb:b∈T){r:List Nat}(h:∀c∈r,a.getD c 0=b.getD c 0){c:Nat}(k:Cl bs r c):a.getD c 0=b.getD c 0:=by
 induction k with
 |base hc=>exact h _ hc
 |step hx _ hd ih=>exact keep _ hx a ha b hb (fU λc hc=>ih c hc) _ hd
theorem D8(keep:∀x∈bs,vd x.1 x.2 T):∀(k:Nat)(cs:List Nat),(∀p∈ir bs k cs,∃a∈T,∀c∈p,a.getD c 0=0)->∃a∈T,∀c∈cs,a.getD c 0=0
 |0,cs,h=>h cs (by unfold ir;exact List.mem_singleton.mpr rfl)
 |k+1,cs,h=>by
  cases e:(ma cs).find? (n9 bs cs)with
  |none=>exact h cs (by rw[m7 e];exact List.mem_singleton.mpr rfl)
  |some r=>
   obtain⟨hr,hb⟩:=sv e;rw[m8 e]at h;obtain⟨a,ha,a0⟩:=D8 keep k (hz bs cs r) λp hp=>h p (bW _ hp);obtain⟨b,hb',b0⟩:=D8 keep k (rz bs cs r) λp hp=>h p (bT _ hp);have same:∀c∈r,a.getD c 0=b.getD c 0:=λc hc=>by
    rw[a0 c (vy.mpr ⟨hr.subset hc,.base hc⟩),b0 c (v8.mpr ⟨hr.subset hc,.inl hc⟩)]
   refine⟨b,hb',λc hc=>?_⟩
   by_cases hz':c∈hz bs cs r
   ·rw[<-PU keep ha hb' same (vy.mp hz').2];exact a0 c hz'
   ·exact b0 c (v8.mpr ⟨hc,.inr hz'⟩)
theorem A4:∀(k:Nat)(cs p:List Nat),p∈ir bs k cs->p.Sublist cs
 |0,cs,p,h=>by
  unfold ir at h;rw[List.mem_singleton.mp h];exact List.Sublist.refl _
 |k+1,cs,p,h=>by
  cases e:(ma cs).find? (n9 bs cs)with
  |none=>rw[m7 e]at h;rw[List.mem_singleton.mp h];exact List.Sublist.refl _
  |some r=>
   rw[m8 e]at h;rcases List.mem_append.mp h with h|h
   ·exact(A4 k _ p h).trans List.filter_sublist
   ·exact(A4 k _ p h).trans List.filter_sublist
theorem Gx:∀(k:Nat)(cs:List Nat),∀c∈cs,∃p∈ir bs k cs,c∈p
 |0,cs,c,hc=>⟨cs,by unfold ir;exact List.mem_singleton.mpr rfl,hc⟩
 |k+1,cs,c,hc=>by
  cases e:(ma cs).find? (n9 bs cs)with
  |none=>exact⟨cs,by rw[m7 e];exact List.mem_singleton.mpr rfl,hc⟩
  |some r=>
   rw[m8 e]
   by_cases hz':c∈hz bs cs r
   ·obtain⟨p,hp,h⟩:=Gx k _ c hz';exact⟨p,bW _ hp,h⟩
   ·obtain⟨p,hp,h⟩:=Gx k (rz bs cs r) c (v8.mpr ⟨hc,.inr hz'⟩);exact⟨p,bT _ hp,h⟩
theorem M7:∀(k:Nat)(cs p:List Nat),cs.Pairwise (· <·)->cs≠[]->p∈ir bs k cs->p≠[]
 |0,cs,p,_,hc,h=>by
  unfold ir at h;rw[List.mem_singleton.mp h];exact hc
 |k+1,cs,p,hp,hc,h=>by
  cases e:(ma cs).find? (n9 bs cs)with
  |none=>rw[m7 e]at h;rw[List.mem_singleton.mp h];exact hc
  |some r=>
   obtain⟨hr,hb⟩:=sv e;have hb2:=hb;rw[Gn hp hr,aF,decide_eq_true_eq,decide_eq_true_eq]at hb2;rw[m8 e]at h;rcases List.mem_append.mp h with h|h
   ·exact M7 k _ p (hp.filter _) (λz=>by have z:hz bs cs r=[]:=z;rw[z]at hb2;simp at hb2) h
   ·refine M7 k _ p (hp.filter _) (λz=>?_) h;have all:∀c∈cs,c∈hz bs cs r:=λc hc=>by
     apply eJ;intro hn;have:c∈rz bs cs r:=v8.mpr ⟨hc,.inr hn⟩;have z:rz bs cs r=[]:=z;rw[z]at this;cases this
    have:hz bs cs r=cs:=wj (hp.filter _:(hz bs cs r).Pairwise (· <·)) hp λc=>⟨λh=>(vy.mp h).1,all c⟩;rw[this]at hb2
    lia
theorem sf:∀(k:Nat)(cs p:List Nat),cs.Pairwise (· <·)->cs.length<=k->p∈ir bs k cs->(ma p).find? (n9 bs p)=none
 |k,cs,p,hp,hk,h=>by
  cases e:(ma cs).find? (n9 bs cs)with
  |none=>rw[m7 e]at h;rw[List.mem_singleton.mp h];exact e
  |some r=>
   obtain⟨hr,hb⟩:=sv e;obtain⟨l1,l2⟩:=Hi hp hr hb;cases k with
   |zero=>exact absurd (bI l1 hk) (lX _)
   |succ k=>
    rw[m8 e]at h;rcases List.mem_append.mp h with h|h
    ·exact sf k (hz bs cs r) p (hp.filter _) (by lia) h
    ·exact sf k (rz bs cs r) p (hp.filter _) (by lia) h
end
def Rc{m:Nat}(h6:m<=6):fc (.int (m:Int))=some (tN (aW m)):=by
 match m,h6 with
 |0,_=>rfl
 |1,_=>rfl
 |2,_=>rfl
 |3,_=>rfl
 |4,_=>rfl
 |5,_=>rfl
 |6,_=>rfl
def MD{m:Nat}(h6:m<=6)(v0 v2 v3 v4 v5 v6:Sl):g1 cu (Kh (ft (ae (gC (.int 0)) ai)) (aa 1)) [v0,.pu (.int (m:Int)),v2,v3,v4,v5,v6]=.ok (tN (aM m 0)):=by
 match m,h6 with
 |0,_=>rfl
 |1,_=>rfl
 |2,_=>rfl
 |3,_=>rfl
 |4,_=>rfl
 |5,_=>rfl
 |6,_=>rfl
section
variable{m:Nat}{bs:List Bd}
def Zb(n:Nat)(g:∀b∈bs,GoodB m b)(h1:1<=m)(h5:m<=5)(hb:bs.length<=10):af (tab (n+7)) qg [a9 bs,.int (m:Int),.lst ((ir bs 5 (aW m)).map tN)]=.ok (.tup [.str "sound",.non]):=by
 have rg:(aW m).Pairwise (· <·):=fE;have rne:aW m≠[]:=λz=>by have:=congrArg gS z;simp at this;lia
 generalize hP:ir bs 5 (aW m)=P;have lP:P.length<=32:=by rw[<-hP];exact uh 5 _
 have gP:∀p∈P,Good m p:=λp hp=>by
  rw[<-hP]at hp;have hs:=A4 5 _ p hp;exact⟨λc hc=>List.mem_range.mp (hs.subset hc),rg.sublist hs⟩
 have nP:∀p∈P,p≠[]:=λp hp=>by rw[<-hP]at hp;exact M7 5 _ p rg rne hp
 have aP:∀c,c<m->∃p∈P,c∈p:=λc hc=>by rw[<-hP];exact Gx 5 _ c (List.mem_range.mpr hc)
 have e1:=jz n g h1 (by lia) hb;rw[Mv]at e1;have e2:=R9 (n+1) (by lia) gP (by lia) aP;obtain⟨G,w1,w2,w3⟩:=Uo (n+4) nP (by lia) (λp hp=>by have:=(gP p hp).len;lia);generalize hW:G.filter (Eu G)=W at w3;have mW:∀w∈W,w∈P:=λw hw=>by rw[<-hW]at hw;exact(w1 w).mp (List.mem_filter.mp hw).1
 have lW:W.length<=32:=by
  have:W.length<=G.length:=by rw[<-hW];exact iK _ _
  lia
 have Z:=FZ (m:=m) (W:=W) λp hp c hc=>(gP p (mW p hp)).lt c hc;have ht:=Ls (m:=m) (by lia) W 1 (by lia);obtain⟨T',H,Z',keep,hH,_,e4⟩:=BF (n+3) g h1 (by lia) (by lia) Z (by lia);obtain⟨a,ha,a0⟩:=D8 keep 5 (aW m) λp hp=>by
  rw[hP]at hp;obtain⟨w,hw,hs⟩:=Pe (G:=G) (λq hq=>(gP q ((w1 q).mp hq)).ris) (λq hq=>by have:=(gP q ((w1 q).mp hq)).len;lia) 100 p ((w1 p).mpr hp) (by lia);rw[hW]at hw;obtain⟨j,hj⟩:=List.mem_iff_getElem?.mp hw;have hl:j<T'.length:=by rw[Z'.len];exact(List.getElem?_eq_some_iff.mp hj).1
  exact⟨T'[j],nW hl,λc hc=>Z'.z j w _ hj (bL hl) c (fb.mp hs c hc)⟩
 have az:a=aM m 0:=by
  have hl:=Z'.w a ha;refine List.eq_replicate_iff.mpr ⟨hl,λb hb=>?_⟩;obtain⟨i,hi⟩:=List.mem_iff_getElem?.mp hb;have hlt:=(List.getElem?_eq_some_iff.mp hi).1;have:=a0 i (List.mem_range.mpr (by lia));rw[bR,hi]at this;exact this
 have hin:aM m 0∈H:=(hH _).mpr (az▸ha);rw[BY (n+6)];show cn (Gm (n+6) [.pu (a9 bs),.pu (.int (m:Int)),.pu (.lst (P.map tN)),.no,.no,.no,.no])=_;unfold Gm;have s1:fz [0,1] (ny (aj (af (tab (n+6)) cz) (ae (ao 0) (ae (ao 1) ai)))) [.pu (a9 bs),.pu (.int (m:Int)),.pu (.lst (P.map tN)),.no,.no,.no,.no]=.nx [.pu (a9 bs),.pu (.int (m:Int)),.pu (.lst (P.map tN)),.no,.no,.no,.no]:=by
  simp only[mn,b9,ik,aS,aR];exact xf (bb (ds:=[a9 bs,.int (m:Int)]) rfl e1)
 have s2:fz [2,1] (ny (aj (af (tab (n+6)) g7) (ae (ao 2) (ae (ao 1) ai)))) [.pu (a9 bs),.pu (.int (m:Int)),.pu (.lst (P.map tN)),.no,.no,.no,.no]=.nx [.pu (a9 bs),.pu (.int (m:Int)),.pu (.lst (P.map tN)),.no,.no,.no,.no]:=by
  simp only[mn,b9,ik,aS,aR];exact xf (bb (ds:=[.lst (P.map tN),.int (m:Int)]) rfl e2)
 have s3:fw 3 (ft ai) [.pu (a9 bs),.pu (.int (m:Int)),.pu (.lst (P.map tN)),.no,.no,.no,.no]=.nx [.pu (a9 bs),.pu (.int (m:Int)),.pu (.lst (P.map tN)),.ow [],.no,.no,.no]:=rfl;obtain⟨w4,w5,q⟩:=Q3 (m:=m) (by lia) (.pu (a9 bs)) (.pu (.lst (P.map tN))) .no W [] 1 .no .no (by simp;lia);rw[fH]at q;have kw:aj (af (tab (n+6)) m9) (ae (aa 2) ai) [.pu (a9 bs),.pu (.int (m:Int)),.pu (.lst (P.map tN)),.ow [],.no,.no,.no]=.ok (.lst (W.map tN)):=bb (ds:=[.lst (P.map tN)]) rfl w3;have s4:gf (kr [4,5]) (Kd (aj (af (tab (n+6)) m9) (ae (aa 2) ai))) UY [.pu (a9 bs),.pu (.int (m:Int)),.pu (.lst (P.map tN)),.ow [],.no,.no,.no]=.nx [.pu (a9 bs),.pu (.int (m:Int)),.pu (.lst (P.map tN)),.ow ((fy m 1 W).map tN),w4,w5,.no]:=by
  rw[ig (ds:=je 1 (W.map tN)) (by unfold Kd;rw[kw])];exact q
 have k5:aj (af (tab (n+6)) js) (ae (aa 0) (ae (aa 3) ai)) [.pu (a9 bs),.pu (.int (m:Int)),.pu (.lst (P.map tN)),.ow ((fy m 1 W).map tN),w4,w5,.no]=.ok (.lst (H.map tN)):=bb (ds:=[a9 bs,.lst ((fy m 1 W).map tN)]) rfl e4;rw[bz,s1];dsimp only;rw[bz,s2];dsimp only;rw[bz,s3];dsimp only;rw[bz];rw[show gf (kr [4,5]) (Kd (aj (af (tab (n+6)) m9) (ae (aa 2) ai))) (fz [4] (pq 3 (g1 cu (bw (fx (ae (aa 1) ai)) [5,4] (gC (.bl true)) (Mo (g2 cg (aa 0) (aa 1)) (gC (.int 0)) (ao 2)))))) [.pu (a9 bs),.pu (.int (m:Int)),.pu (.lst (P.map tN)),.ow [],.no,.no,.no]=_ from s4];dsimp only;rw[bz,iw,k5,bp];show cn (bj _ _ [.pu (a9 bs),.pu (.int (m:Int)),.pu (.lst (P.map tN)),.ow ((fy m 1 W).map tN),w4,w5,.pu (.lst (H.map tN))])=_;have c6:g2 cg (g1 cu (Kh (ft (ae (gC (.int 0)) ai)) (aa 1))) (aa 6) [.pu (a9 bs),.pu (.int (m:Int)),.pu (.lst (P.map tN)),.ow ((fy m 1 W).map tN),w4,w5,.pu (.lst (H.map tN))]=.ok (.bl true):=by
  rw[rf,MD (by lia)];show Res.of (cg (tN (aM m 0)) (.lst (H.map tN)))=_;rw[QY,decide_eq_true hin];rfl
 rw[bz,Iu,c6,bp];rfl
def Vg(n:Nat){cs:List Nat}(g:Good m cs)(hm:m<=1000):af (tab (n+5)) f9 [tN cs,.int (m:Int)]=.ok (tN cs):=by
 have h:=qf n g hm;rw[ij]at h;rw[xg];simp -implicitDefEqProofs [oi,h]
def Ds(n:Nat)(g:∀b∈bs,GoodB m b)(h1:1<=m)(h5:m<=5)(hb:bs.length<=10){cs:List Nat}(gc:Good m cs):af (tab (n+7)) jq [a9 bs,.int (m:Int),tN cs]=.ok (.bl ((ma cs).find? (n9 bs cs)).isNone):=by
 have F:=Hd g (show m<=6 by lia) (show bs.length<=80 by lia);have e1:=jz n g h1 (by lia) hb;rw[Mv]at e1;have e2:=Vg (n+1) gc (by lia);have hl:=gc.len;have e3:=Zz (n+1) F gc.ris (by lia);rw[Sj (n+6)];show cn (yp (n+6) [.pu (a9 bs),.pu (.int (m:Int)),.pu (tN cs)])=_;unfold yp;have s1:fz [0,1] (ny (aj (af (tab (n+6)) cz) (ae (ao 0) (ae (ao 1) ai)))) [.pu (a9 bs),.pu (.int (m:Int)),.pu (tN cs)]=.nx [.pu (a9 bs),.pu (.int (m:Int)),.pu (tN cs)]:=by
  simp only[mn,b9,ik,aS,aR];exact xf (bb (ds:=[a9 bs,.int (m:Int)]) rfl e1)
 have s2:fz [2,1] (ny (aj (af (tab (n+6)) f9) (ae (ao 2) (ae (ao 1) ai)))) [.pu (a9 bs),.pu (.int (m:Int)),.pu (tN cs)]=.nx [.pu (a9 bs),.pu (.int (m:Int)),.pu (tN cs)]:=by
  simp only[mn,b9,ik,aS,aR];exact xf (bb (ds:=[tN cs,.int (m:Int)]) rfl e2)
 have k3:aj (af (tab (n+6)) iu) (ae (aa 0) (ae (aa 2) ai)) [.pu (a9 bs),.pu (.int (m:Int)),.pu (tN cs)]=.ok (HI bs cs ((ma cs).find? (n9 bs cs))):=bb (ds:=[a9 bs,tN cs]) rfl e3;rw[bz,s1];dsimp only;rw[bz,s2];dsimp only;rw[uf,rf,k3];cases (ma cs).find? (n9 bs cs)<;>rfl
def IG(n:Nat)(g:∀b∈bs,GoodB m b)(h1:1<=m)(h5:m<=5)(hb:bs.length<=10):af (tab (n+12)) B0 [a9 bs,.int (m:Int)]=.ok (.lst ((ir bs 5 (aW m)).map tN)):=by
 have F:=Hd g (show m<=6 by lia) (show bs.length<=80 by lia);have e1:=jz (n+5) g h1 (by lia) hb;rw[Mv]at e1;have e2:=Oj n F 5 (aW m) (by rw[dN];exact h5) (aH _) fE;rw[PK (n+11)];show cn (U1 (n+11) [.pu (a9 bs),.pu (.int (m:Int))])=_;unfold U1;have s1:fz [0,1] (ny (aj (af (tab (n+11)) cz) (ae (ao 0) (ae (ao 1) ai)))) [.pu (a9 bs),.pu (.int (m:Int))]=.nx [.pu (a9 bs),.pu (.int (m:Int))]:=by
  simp only[mn,b9,ik,aS,aR];exact xf (bb (ds:=[a9 bs,.int (m:Int)]) rfl e1)
 have ga:ae (aa 0) (ae (g1 fc (aa 1)) ai) [.pu (a9 bs),.pu (.int (m:Int))]=.ok [a9 bs,tN (aW m)]:=by
  have:g1 fc (aa 1) [.pu (a9 bs),.pu (.int (m:Int))]=.ok (tN (aW m)):=by
   show Res.of (fc (.int (m:Int)))=_;rw[Rc (by lia)];rfl
  rw[n6,n6,this];rfl
 rw[bz,s1];dsimp only;rw[uf,bb ga e2];rfl
end
def Y9(bs:List Bd):Bi 3 (a9 bs):=L4 λd hd=>by
 obtain⟨b,_,rfl⟩:=List.mem_map.mp hd;refine Dx λd hd=>?_;rcases List.mem_cons.mp hd with rfl|hd
 ·rw[<-ij];exact Bc _
 ·rw[List.mem_singleton.mp hd,<-ij];exact Bc _
def Za(S:List (List Nat)):Bi 2 (.lst (S.map tN)):=L4 λd hd=>by
 obtain⟨r,_,rfl⟩:=List.mem_map.mp hd;rw[<-ij];exact Bc _
def FN:Bi 1 (.tup [.str "sound",.non]):=Dx λd hd=>by
 rcases List.mem_cons.mp hd with rfl|hd
 ·exact⟨.str "sound",rfl,by decide+kernel,aH _⟩
 ·rw[List.mem_singleton.mp hd];exact⟨.none,rfl,rfl,aH _⟩
section
variable{bs:List Bd}{m:Nat}
def QR(n:Nat):En->Out:=(bj (fz [4,1,6] (fj 7 (aj (af (tab n) jq) (ae (ao 4) (ae (ao 1) (ae (ao 6) ai))))))
 (t7 (Ad (jt (mj (g1 (cy "bool") (aa 7)))) (Ad (g2 dh (aa 7) (g2 me (aj (af (tab n) dj) (ae (aa 2) (ae (aa 6) ai))) (gC .non))) (g2 dh (aa 4) (aa 2)))) (cq (gC (.bl false))) jy))
def KW(n:Nat)(g:∀b∈bs,GoodB m b)(h1:1<=m)(h5:m<=5)(hb:bs.length<=10){cs:List Nat}(gc:Good m cs)(v0 v3 v5 v7:Sl):QR (n+7) [v0,.pu (.int (m:Int)),.pu (a9 bs),v3,.pu (a9 bs),v5,.pu (tN cs),v7]=.nx [v0,.pu (.int (m:Int)),.pu (a9 bs),v3,.pu (a9 bs),v5,.pu (tN cs),.pu (.bl ((ma cs).find? (n9 bs cs)).isNone)]:=by
 have F:=Hd g (show m<=6 by lia) (show bs.length<=80 by lia);have hl:=gc.len;have l6:qp cs:=λc hc=>by have:=gc.lt c hc;lia
 have k1:aj (af (tab (n+7)) jq) (ae (ao 4) (ae (ao 1) (ae (ao 6) ai))) [v0,.pu (.int (m:Int)),.pu (a9 bs),v3,.pu (a9 bs),v5,.pu (tN cs),v7]=.ok (.bl ((ma cs).find? (n9 bs cs)).isNone):=bb (ds:=[a9 bs,.int (m:Int),tN cs]) rfl (Ds n g h1 h5 hb gc);generalize hx:((ma cs).find? (n9 bs cs)).isNone=x at k1⊢;have k2:g2 me (aj (af (tab (n+7)) dj) (ae (aa 2) (ae (aa 6) ai))) (gC .non) [v0,.pu (.int (m:Int)),.pu (a9 bs),v3,.pu (a9 bs),v5,.pu (tN cs),.pu (.bl x)]=.ok (.bl x):=by
  rw[rf,bb (ds:=[a9 bs,tN cs]) rfl (B7 (n+4) F gc.ris l6 (by lia)),<-hx];cases (ma cs).find? (n9 bs cs)<;>rfl
 have n1:g2 dh (aa 7) (g2 me (aj (af (tab (n+7)) dj) (ae (aa 2) (ae (aa 6) ai))) (gC .non)) [v0,.pu (.int (m:Int)),.pu (a9 bs),v3,.pu (a9 bs),v5,.pu (tN cs),.pu (.bl x)]=.ok (.bl false):=by
  have:dh (.bl x) (.bl x)=some (.bl false):=(uj (n:=0) ⟨.bool x,rfl,rfl,aH _⟩ (by decide)).2;show((Res.ok (.bl x)).bind λa=>(g2 me (aj (af (tab (n+7)) dj) (ae (aa 2) (ae (aa 6) ai))) (gC .non) [v0,.pu (.int (m:Int)),.pu (a9 bs),v3,.pu (a9 bs),v5,.pu (tN cs),.pu (.bl x)]).bind λb=>Res.of (dh a b))=_;rw[k2,bq,bq,this];rfl
 have n2:g2 dh (aa 4) (aa 2) [v0,.pu (.int (m:Int)),.pu (a9 bs),v3,.pu (a9 bs),v5,.pu (tN cs),.pu (.bl x)]=.ok (.bl false):=by
  show Res.of (dh (a9 bs) (a9 bs))=_;rw[(uj (Y9 bs) (by decide)).2];rfl
 have n0:jt (mj (g1 (cy "bool") (aa 7))) [v0,.pu (.int (m:Int)),.pu (a9 bs),v3,.pu (a9 bs),v5,.pu (tN cs),.pu (.bl x)]=.ok (.bl false):=rfl;unfold QR;rw[bz];simp only[mn,b9,ik,aS,aR];rw[iw,k1,bp];show t7 _ _ _ [v0,.pu (.int (m:Int)),.pu (a9 bs),v3,.pu (a9 bs),v5,.pu (tN cs),.pu (.bl x)]=_;rw[Iu,Z4,n0,bq];dsimp only;rw[Z4,n1,bq];dsimp only;rw[n2];rfl
theorem Qk(n:Nat)(g:∀b∈bs,GoodB m b)(h1:1<=m)(h5:m<=5)(hb:bs.length<=10)(v0 v3 v5:Sl):∀(S:List (List Nat))(v6 v7:Sl),(∀r∈S,Good m r)->(v6=.no\/∃d,v6=.pu d)->
  ∃w6 w7,(w6=.no\/∃d,w6=.pu d)/\turns (bf 6) (QR (n+7)) (S.map tN) [v0,.pu (.int (m:Int)),.pu (a9 bs),v3,.pu (a9 bs),v5,v6,v7]=.nx [v0,.pu (.int (m:Int)),.pu (a9 bs),v3,.pu (a9 bs),v5,w6,w7]
 |[],v6,v7,_,h=>⟨v6,v7,h,rfl⟩
 |r::S,v6,v7,h,_=>by
  rw[aV,di (δ1:=[v0,.pu (.int (m:Int)),.pu (a9 bs),v3,.pu (a9 bs),v5,.pu (tN r),v7]) rfl,KW n g h1 h5 hb (h r aN)];exact Qk n g h1 h5 hb v0 v3 v5 S _ _ (λq hq=>h q (aK _ hq)) (.inr ⟨_,rfl⟩)
end
def CP(n:Nat)(ns:List Int):af (tab (n+13)) si [.lst (ns.map Pu.D.int)]=.ok (.bl true):=by
 obtain⟨r0,r1⟩:=C8 ns 0 5 (by decide);obtain⟨m,hm⟩:∃m:Nat,1+zd ns 0 5=(m:Int):=⟨(1+zd ns 0 5).toNat,by lia⟩;have m1:1<=m:=by lia
 have m5:m<=5:=by lia
 obtain⟨bs,gbs,l5,eb⟩:=Hq (n+8) ns 1 (by decide) m (by lia);have e0:=C9 (n+10) ns 0 5 (by decide) (by decide);have Fb:=Hd gbs (show m<=6 by lia) (show bs.length<=80 by lia);have tr:=Rc (m:=m) (by lia);have rg:Good m (aW m):=⟨λc hc=>List.mem_range.mp hc,fE⟩;have r6:qp (aW m):=λc hc=>by have:=List.mem_range.mp hc;lia
 have rl:(aW m).length<=5:=by rw[dN];exact m5
 have ec:=IG n gbs m1 m5 (by lia);have el:=CN (n+8) Fb rg.ris r6 rl;have es:=Zb (n+5) gbs m1 m5 (by lia);have eh:=Ah (n+10) rg.ris rl;have lP:(ir bs 5 (aW m)).length<=32:=uh 5 _;have gP:∀p∈ir bs 5 (aW m),Good m p/\(ma p).find? (n9 bs p)=none:=λp hp=>by
  have hs:=A4 5 _ p hp;exact⟨⟨λc hc=>List.mem_range.mp (hs.subset hc),rg.ris.sublist hs⟩,sf 5 _ p rg.ris rl hp⟩
 generalize ir bs 5 (aW m)=P at ec el es lP gP;rw[PJ (n+12)];show cn (U2 (n+12) [.pu (oh ns),.no,.no,.no,.no,.no,.no,.no])=_;unfold U2;have k0:aj (af (tab (n+12)) fi) (ae (aa 0) (ae (gC (.int 0)) (ae (gC (.int 5)) ai))) [.pu (oh ns),.no,.no,.no,.no,.no,.no,.no]=.ok (.int (zd ns 0 5)):=bb (ds:=[oh ns,.int 0,.int 5]) rfl e0;have k1:aj (af (tab (n+12)) jn) (ae (aa 0) (ae (gC (.int 1)) (ae (aa 1) ai))) [.pu (oh ns),.pu (.int (m:Int)),.no,.no,.no,.no,.no,.no]=.ok (a9 bs):=bb (ds:=[oh ns,.int 1,.int (m:Int)]) rfl eb;have s1:fj 1 (g2 bx (gC (.int 1)) (aj (af (tab (n+12)) fi) (ae (aa 0) (ae (gC (.int 0)) (ae (gC (.int 5)) ai))))) [.pu (oh ns),.no,.no,.no,.no,.no,.no,.no]=.nx [.pu (oh ns),.pu (.int (m:Int)),.no,.no,.no,.no,.no,.no]:=by
  rw[iw,rf,k0];simp[hm]
 have s2:fj 2 (aj (af (tab (n+12)) jn) (ae (aa 0) (ae (gC (.int 1)) (ae (aa 1) ai)))) [.pu (oh ns),.pu (.int (m:Int)),.no,.no,.no,.no,.no,.no]=.nx [.pu (oh ns),.pu (.int (m:Int)),.pu (a9 bs),.no,.no,.no,.no,.no]:=by
  rw[iw,k1];rfl
 have s3:fj 3 (g1 fc (aa 1)) [.pu (oh ns),.pu (.int (m:Int)),.pu (a9 bs),.no,.no,.no,.no,.no]=.nx [.pu (oh ns),.pu (.int (m:Int)),.pu (a9 bs),.pu (tN (aW m)),.no,.no,.no,.no]:=by
  have:g1 fc (aa 1) [.pu (oh ns),.pu (.int (m:Int)),.pu (a9 bs),.no,.no,.no,.no,.no]=.ok (tN (aW m)):=by
   show Res.of (fc (.int (m:Int)))=_;rw[tr];rfl
  rw[iw,this];rfl
 have s4:fw 4 (g1 fh (aa 2)) [.pu (oh ns),.pu (.int (m:Int)),.pu (a9 bs),.pu (tN (aW m)),.no,.no,.no,.no]=.nx [.pu (oh ns),.pu (.int (m:Int)),.pu (a9 bs),.pu (tN (aW m)),.ow (bs.map p8),.no,.no,.no]:=rfl;have k5:aj (af (tab (n+12)) B0) (ae (ao 4) (ae (ao 1) ai)) [.pu (oh ns),.pu (.int (m:Int)),.pu (a9 bs),.pu (tN (aW m)),.pu (a9 bs),.no,.no,.no]=.ok (.lst (P.map tN)):=bb (ds:=[a9 bs,.int (m:Int)]) rfl ec;have s5:fz [4,1] (fj 5 (aj (af (tab (n+12)) B0) (ae (ao 4) (ae (ao 1) ai)))) [.pu (oh ns),.pu (.int (m:Int)),.pu (a9 bs),.pu (tN (aW m)),.ow (bs.map p8),.no,.no,.no]=.nx [.pu (oh ns),.pu (.int (m:Int)),.pu (a9 bs),.pu (tN (aW m)),.pu (a9 bs),.pu (.lst (P.map tN)),.no,.no]:=by
  show fj 5 (aj (af (tab (n+12)) B0) (ae (ao 4) (ae (ao 1) ai))) [.pu (oh ns),.pu (.int (m:Int)),.pu (a9 bs),.pu (tN (aW m)),.pu (a9 bs),.no,.no,.no]=_;rw[iw,k5];rfl
 rw[bz,s1];dsimp only;rw[bz,s2];dsimp only;rw[bz,s3];dsimp only;rw[bz,s4];dsimp only;rw[bz,s5];dsimp only;generalize hE:([.pu (oh ns),.pu (.int (m:Int)),.pu (a9 bs),.pu (tN (aW m)),.pu (a9 bs),.pu (.lst (P.map tN)),.no,.no]:En)=E;have k6:aj (af (tab (n+12)) j3) (ae (aa 2) (ae (ao 3) ai)) E=.ok (.lst (P.map tN)):=by
  subst hE;exact bb (ds:=[a9 bs,tN (aW m)]) rfl el
 have k7:aj (af (tab (n+12)) qg) (ae (ao 2) (ae (ao 1) (ae (g1 fh (aa 5)) ai))) E=.ok (.tup [.str "sound",.non]):=by
  subst hE;exact bb (ds:=[a9 bs,.int (m:Int),.lst (P.map tN)]) rfl es
 have c1:g2 dh (aa 5) (aj (af (tab (n+12)) j3) (ae (aa 2) (ae (ao 3) ai))) E=.ok (.bl false):=by
  rw[rf,k6,<-hE];show Res.of (dh (.lst (P.map tN)) (.lst (P.map tN)))=_;rw[(uj (Za P) (by decide)).2];rfl
 have c2:g2 dh (aa 4) (aa 2) E=.ok (.bl false):=by
  rw[<-hE];show Res.of (dh (a9 bs) (a9 bs))=_;rw[(uj (Y9 bs) (by decide)).2];rfl
 have c3:g2 dh (aj (af (tab (n+12)) qg) (ae (ao 2) (ae (ao 1) (ae (g1 fh (aa 5)) ai)))) (ia (ae (gC (.str "sound")) (ae (gC .non) ai))) E=.ok (.bl false):=by
  rw[rf,k7];show Res.of (dh (.tup [.str "sound",.non]) (.tup [.str "sound",.non]))=_;rw[(uj FN (by decide)).2];rfl
 have s6:fz [3,2,1] (t7 (Ad (g2 dh (aa 5) (aj (af (tab (n+12)) j3) (ae (aa 2) (ae (ao 3) ai)))) (Ad (g2 dh (aa 4) (aa 2)) (g2 dh (aj (af (tab (n+12)) qg) (ae (ao 2) (ae (ao 1) (ae (g1 fh (aa 5)) ai)))) (ia (ae (gC (.str "sound")) (ae (gC .non) ai)))))) (cq (gC (.bl false))) jy) E=.nx E:=by
  have ez:frzs [3,2,1] E=E:=by rw[<-hE];rfl
  show t7 _ _ _ (frzs [3,2,1] E)=_;rw[ez,Iu,Z4,c1,bq];dsimp only;rw[Z4,c2,bq];dsimp only;rw[c3];rfl
 rw[bz,s6];dsimp only;have k8:aj (af (tab (n+12)) cw) (ae (aa 3) ai) E=.ok (.lst ((ma (aW m)).map tN)):=by
  subst hE;exact bb (ds:=[tN (aW m)]) rfl eh
 obtain⟨w6,w7,hw,q⟩:=Qk (n+5) gbs m1 m5 (by lia) (.pu (oh ns)) (.pu (tN (aW m))) (.pu (.lst (P.map tN))) (ma (aW m)) .no .no (λr hr=>by
  have hs:=A9.mp hr;exact⟨λc hc=>List.mem_range.mp (hs.subset hc),rg.ris.sublist hs⟩) (.inl rfl)
 have s7:gf (bf 6) (ba (aj (af (tab (n+12)) cw) (ae (aa 3) ai))) (QR (n+12)) E=.nx [.pu (oh ns),.pu (.int (m:Int)),.pu (a9 bs),.pu (tN (aW m)),.pu (a9 bs),.pu (.lst (P.map tN)),w6,w7]:=by
  rw[ig (ds:=(ma (aW m)).map tN) (by rw[D6,k8];rfl),<-hE];exact q
 unfold QR at s7;rw[bz,s7];dsimp only;have c8:bw (ba (aa 5)) [2,1] (jt (mj (aj (af (tab (n+12)) jq) (ae (ao 1) (ae (ao 2) (ae (ao 0) ai)))))) (ao 0) [.pu (oh ns),.pu (.int (m:Int)),.pu (a9 bs),.pu (tN (aW m)),.pu (a9 bs),.pu (.lst (P.map tN)),w6,w7]=.ok (.lst ((P.filter λ_=>false).map tN)):=by
  refine gr (l:=P) (f:=tN) (b:=λ_=>false) rfl (by lia) λp hp=>?_;have e:=Ds (n+5) gbs m1 m5 (by lia) (gP p hp).1;rw[(gP p hp).2]at e;show jt (mj _) [.pu (tN p),.pu (a9 bs),.pu (.int (m:Int))]=_;rw[Rj,Mj,bb (ds:=[a9 bs,.int (m:Int),tN p]) rfl e];rfl
 rw[show(P.filter λ_=>false)=[]from List.filter_eq_nil_iff.mpr λ_ _ z=>Bool.false_ne_true z,kL]at c8;have ez:frzs [6,2,1,6] [.pu (oh ns),.pu (.int (m:Int)),.pu (a9 bs),.pu (tN (aW m)),.pu (a9 bs),.pu (.lst (P.map tN)),w6,w7]=[.pu (oh ns),.pu (.int (m:Int)),.pu (a9 bs),.pu (tN (aW m)),.pu (a9 bs),.pu (.lst (P.map tN)),w6,w7]:=by
  rcases hw with rfl|⟨d,rfl⟩<;>rfl
 show cn (cq _ (frzs [6,2,1,6] [.pu (oh ns),.pu (.int (m:Int)),.pu (a9 bs),.pu (tN (aW m)),.pu (a9 bs),.pu (.lst (P.map tN)),w6,w7]))=_;rw[ez,uf,rf,c8];have:jw (.lst []) (.lst [])=some (.bl true):=(uj (Za []) (by decide)).1;show cn ((Res.of (jw (.lst []) (.lst []))).then .rt)=_;rw[this];rfl
def W2(ns:List Int)(hn:ns.length<=63):af (tab 29) si [.lst (ns.map Pu.D.int)]=.ok (.bl true):=CP 16 ns
end LK
end
section
namespace LK
open PySem PySem.Spec PyProof.Rows L2 Pu
def VD(K:aU)(d:DefR):Prop:=∃f oc kV dc pm cd ct od an sl,gX K cO d.x=some (some (.ref f))/\K.lookup f=some ⟨oc,od,.func (eD d.x d.x (iz d.st) (ff d.st) (bu d.st) .none kV dc pm an cd ct),sl⟩/\gG K cd d.x=true/\cX K (.ref f)=true/\(d.lm=true->∃c P,cd=.ref c/\(c,P,d.x++".<locals>."++"<lambda>")∈Mc/\jF K c P=true)
def IF{K:aU}{d:DefR}{f oc kV dc pm c P ct od an sl}(a:gX K cO d.x=some (some (.ref f)))(l:K.lookup f=some ⟨oc,od,.func (eD d.x d.x (iz d.st) (ff d.st) (bu d.st) .none kV dc pm an (.ref c) ct),sl⟩)(cc:gG K (.ref c) d.x=true)(k:cX K (.ref f)=true)(y:(c,P,d.x++".<locals>."++"<lambda>")∈Mc)(u:jF K c P=true):VD K d:=⟨_,_,_,_,_,_,_,_,_,_,a,l,cc,k,λ_=>⟨c,P,rfl,y,u⟩⟩
def vn{K:aU}{d:DefR}{f oc kV dc pm cd ct od an sl}(a:gX K cO d.x=some (some (.ref f)))(l:K.lookup f=some ⟨oc,od,.func (eD d.x d.x (iz d.st) (ff d.st) (bu d.st) .none kV dc pm an cd ct),sl⟩)(c:gG K cd d.x=true)(k:cX K (.ref f)=true)(z:d.lm=false):VD K d:=⟨_,_,_,_,_,_,_,_,_,_,a,l,c,k,λy=>by rw[z]at y;cases y⟩
def QN:∀d∈Jt,Dd d=true:=by decide+kernel
def PQ:∀d∈Jt,Gg d.st d.x:=by
 intro d hd;simp only[Jt,dU,nZ,or_false]at hd;rcases hd with rfl|rfl|rfl|rfl|rfl|rfl|rfl|rfl|rfl|rfl|rfl|rfl|rfl|rfl|rfl|rfl|rfl|rfl|rfl|rfl|rfl|rfl|rfl|rfl|rfl|rfl|rfl|rfl|rfl|rfl|rfl|rfl|rfl|rfl
 all_goals (intro _ _ _ _ _ _ us hl;rcases us with _|⟨_,_|⟨_,_|⟨_,_|⟨_,_|_⟩⟩⟩⟩<;>first|rfl|cases hl)
def IY{l:PySem.W.OpenLaw}{w:bZ}{K:aU}{h:Heap}{mg:Str->Option aC}{fa:Addr}{n:Nat}{s:FS}(X:K.In h)(G:h.Ns cO mg)(hfa:mg "law"=some (.ref fa))(hl:(tab n).fns "law"=some s)(hm:s.ms=[false])(law:∀ns:List Int,ns.length<=63->s.f [.lst (ns.map D.int)]=.ok (.bl true))
  {C0:Addr}
  {C1:Addr}
  {C2:Addr}
  (hD:∀d∈Jt,VD K d)
  (hB:∀x∈vm,gX K cO x=some none)
  (xa0:gX K cO "AskError"=some (some (.ref C0)))
  (xe0:gA K C0 [.type "ValueError",.type "Exception",.type "BaseException",.type "object"] "ValueError.__new__"=true)
  (xv0:jQ K (.ref C0) (.type "ValueError")=some true)
  (xa1:gX K cO "NoBonds"=some (some (.ref C1)))
  (xe1:gA K C1 [.type "ValueError",.type "Exception",.type "BaseException",.type "object"] "ValueError.__new__"=true)
  (xv1:jQ K (.ref C1) (.type "ValueError")=some true)
  (xa2:gX K cO "NoColumns"=some (some (.ref C2)))
  (xe2:gA K C2 [.type "ValueError",.type "Exception",.type "BaseException",.type "object"] "ValueError.__new__"=true)
  (xv2:jQ K (.ref C2) (.type "ValueError")=some true)
  (xp0:eO K (.ref C0) (.ref C0)=some true)
  (xp1:eO K (.ref C1) (.ref C1)=some true)
  (xp2:eO K (.ref C1) (.ref C0)=some true)
  (xp3:eO K (.ref C2) (.ref C2)=some true)
  (xp4:eO K (.ref C2) (.ref C0)=some true):
  ∃fd:iC,(∀(s:aI)(v:aC),BindsTo s fd ⟨[v],[]⟩ [("_law_script",v)])/\∀base:Heap,K.In base->base.Ns cO mg->Bm mg base->FnOk l.prog w K mg base OB n fa fd ["_law_script"] (Q4 K):=by
 obtain⟨_,_,kV,dc,pm,cd,ct,_,an,_,a,l,c,k,_⟩:=hD si (by simp only[Jt,dU,true_or,or_true]);cases hfa.symm.trans (cT X G a);have hd:∀d∈Jt,DefIn K mg d:=by
  intro d hd;obtain⟨_,_,_,_,_,_,_,_,_,_,a,l,c,k,y⟩:=hD d hd;exact IE X G (QN d hd) (PQ d hd) a l c k y
 have hs:∀x y,gs x=some y->∃t,mg x=some (.str y t):=by
  intro x y e;unfold gs at e;cases e
 have hb:∀x∈vm,mg x=none:=λx hx=>PySem.W.mg_none_of X G (hB x hx);have hX:XsIn K mg xs:=by
  refine⟨λx h=>?_,λc y h=>?_,λc h=>?_,λc y h=>?_,λx h=>?_,λc h=>?_⟩
  ·simp only[xs,dG,aF,decide_eq_true_eq,Bool.false_eq_true,or_false]at h;rcases h with rfl|rfl|rfl
   ·exact⟨C0,_,_,cT X G xa0,xe0,Pc⟩
   ·exact⟨C1,_,_,cT X G xa1,xe1,Pc⟩
   ·exact⟨C2,_,_,cT X G xa2,xe2,Pc⟩
  ·simp only[xs,dG,aF,decide_eq_true_eq,Bool.false_eq_true,or_false]at h;rcases h with ⟨rfl,rfl⟩|⟨rfl,rfl⟩|⟨rfl,rfl⟩|⟨rfl,rfl⟩|⟨rfl,rfl⟩
   ·exact⟨C0,cT X G xa0,by rw[mx (cT X G xa0)];exact xp0⟩
   ·exact⟨C1,cT X G xa1,by rw[mx (cT X G xa1)];exact xp1⟩
   ·exact⟨C0,cT X G xa0,by rw[mx (cT X G xa1)];exact xp2⟩
   ·exact⟨C2,cT X G xa2,by rw[mx (cT X G xa2)];exact xp3⟩
   ·exact⟨C0,cT X G xa0,by rw[mx (cT X G xa2)];exact xp4⟩
  ·simp only[xs,dG,aF,decide_eq_true_eq,Bool.false_eq_true,or_false]at h;rcases h with rfl|rfl|rfl
   ·rw[mx (cT X G xa0)];show(if oW "ValueError"=true then jQ K (.ref C0) (.type "ValueError")else none)=some true;rw[aG (by decide+kernel)];exact xv0
   ·rw[mx (cT X G xa1)];show(if oW "ValueError"=true then jQ K (.ref C1) (.type "ValueError")else none)=some true;rw[aG (by decide+kernel)];exact xv1
   ·rw[mx (cT X G xa2)];show(if oW "ValueError"=true then jQ K (.ref C2) (.type "ValueError")else none)=some true;rw[aG (by decide+kernel)];exact xv2
  ·simp only[xs,dG,aF,decide_eq_true_eq,Bool.false_eq_true,or_false]at h
  ·simp only[xs,dG,aF,decide_eq_true_eq,Bool.false_eq_true,or_false]at h
  ·simp only[xs,dG,aF,decide_eq_true_eq,Bool.false_eq_true,or_false]at h
 refine⟨eD si.x si.x (iz si.st) (ff si.st) (bu si.st) .none kV dc pm an cd ct,λs v=>.of_eq rfl,λbase kb _ bm=>?_⟩;exact JA KP rfl a l c k kb bm hd hs hb hX hl hm law
end LK
namespace PySem.W.Fast
def tw13239209826385887649:Nat:=0
def tw10086610408907485814:Nat:=0
def tw8167269567028249179:Nat:=0
def tw10151022262782220473:Nat:=0
def tw12942576245179769769:Nat:=0
def tw15987437634432576111:Nat:=0
def tw4609752218213688967:Nat:=0
def tw4158807781278711505:Nat:=0
def tw5201442301682457153:Nat:=0
def tw1620611135827073152:Nat:=0
def tw88631474564820151:Nat:=0
def tw15726528095962061507:Nat:=0
def tw50658608407663673:Nat:=0
def tw13563798138336541431:Nat:=0
def tw539871689518873457:Nat:=0
def tw12452577551420478885:Nat:=0
def tw5931075944734990189:Nat:=0
def tw17886870361350175874:Nat:=0
def tw15847957280160471537:Nat:=0
def tw6727781832470295235:Nat:=0
def tw14502832090068667926:Nat:=0
def tw10992784327105060492:Nat:=0
def tw4492788229026858165:Nat:=0
def tw18380202187466944422:Nat:=0
def tw13902262636028966429:Nat:=0
def tw9792016241772008695:Nat:=0
def tw8335917274282536897:Nat:=0
def tw411024269496888465:Nat:=0
def tw15390667010311936531:Nat:=0
def tw9840523280985927469:Nat:=0
def tw1592885281091553382:Nat:=0
def tw11754369746974603345:Nat:=0
def tw1704315791897366377:Nat:=0
def tw8079691782605998458:Nat:=0
def tw6350329532989307069:Nat:=0
def tw8101820739532694445:Nat:=0
def tw3925984271198594539:Nat:=0
def tw9263792701370809381:Nat:=0
def tw5220785580958859498:Nat:=0
def tw4618677222760758143:Nat:=0
def tw4104224142220763797:Nat:=0
def tw8789485479516134089:Nat:=0
def tw11055798072153959193:Nat:=0
def tw10740422485960101176:Nat:=0
def tw2439046416935496829:Nat:=0
def tw524933530672486313:Nat:=0
def tw7100648383164067391:Nat:=0
def tw16620252148764514135:Nat:=0
def tw13577485852637273681:Nat:=0
def tw16427309714843310915:Nat:=0
def tw11688752247063161657:Nat:=0
def tw15599509685200131142:Nat:=0
def tw10319768014865501008:Nat:=0
def tw18306309444963346194:Nat:=0
def tw8121103498227434469:Nat:=0
def tw1328453548835583501:Nat:=0
def tw8163786697158257945:Nat:=0
def tw5491282009270184493:Nat:=0
def tw748701558088507824:Nat:=0
def tw14535861984903207436:Nat:=0
def tw10959641870974868477:Nat:=0
def tw5995728685396730438:Nat:=0
def tw8686348552977127160:Nat:=0
def tw11046677861308775226:Nat:=0
def tw9678723626066026680:Nat:=0
def tw8849030309051336312:Nat:=0
def tw17875460793129810080:Nat:=0
def tw2130230426154169582:Nat:=0
def tw9964996957276654908:Nat:=0
def tw16238044295419316083:Nat:=0
def tw14710718626190453995:Nat:=0
def tw11901703603463731361:Nat:=0
def tw13117178687030977618:Nat:=0
def tw1527198832340013360:Nat:=0
def tw6630692622845790987:Nat:=0
def tw10669423128454172640:Nat:=0
def tw4885733791229399481:Nat:=0
def tw8235257001371018275:Nat:=0
def tw17378066411664723511:Nat:=0
def tw2006527169560734538:Nat:=0
def tw12068001459694679075:Nat:=0
def tw4638327257793417076:Nat:=0
def tw8198856720331397463:Nat:=0
def tw681911998541421610:Nat:=0
def tw13724535539320196773:Nat:=0
def tw8939475117944849579:Nat:=0
def tw2474956202373403927:Nat:=0
end PySem.W.Fast
open PySem PySem.W PyProof.Rows
set_option maxRecDepth 100000 in
set_option maxHeartbeats 0 in
theorem PySem.Challenge.cw_askbook_k17_whole_cut_holds : PySem.Challenge.rw_askbook_k17_whole_cut.Holds := by
 w_on;o_law;k_head;(case hw=>w_witness2)
 k_fill
 refine Pu.TV (l:=PySem.Challenge.rw_askbook_k17_whole_cut) (k:=30) rfl rfl ⟨rfl,by decide,by decide⟩ (by decide) (λw h Y=>PySem.W.km_in_of Y) ?hNt ?hTb ?hFn
 case hNt=>intro w;kernel_rfl
 case hTb=>
  intro w h Y p hp
  rcases List.mem_cons.mp hp with rfl|hp
  ·exact⟨PySem.W.codeHd_of_K (PySem.W.km_in_of Y) (by kernel_rfl),PySem.W.km_tabs_of Y _ (by decide)⟩
  rcases List.mem_cons.mp hp with rfl|hp
  ·exact⟨PySem.W.codeHd_of_K (PySem.W.km_in_of Y) (by kernel_rfl),PySem.W.km_tabs_of Y _ (by decide)⟩
  obtain rfl:=List.mem_singleton.mp hp
  exact⟨PySem.W.codeHd_of_K (PySem.W.km_in_of Y) (by kernel_rfl),PySem.W.km_tabs_of Y _ (by decide)⟩
 case hFn=>
  intro w mg fa h KX G hmg
  refine' LK.IY (n:=30) KX G hmg (Pu.NF 29 rfl) rfl LK.W2 ?hD ?hB ?xa0 ?xe0 ?xv0 ?xa1 ?xe1 ?xv1 ?xa2 ?xe2 ?xv2 ?xp0 ?xp1 ?xp2 ?xp3 ?xp4
  case hD=>
   intro d hd
   simp only[LK.Jt,List.mem_cons,List.not_mem_nil,or_false]at hd
   rcases hd with rfl|rfl|rfl|rfl|rfl|rfl|rfl|rfl|rfl|rfl|rfl|rfl|rfl|rfl|rfl|rfl|rfl|rfl|rfl|rfl|rfl|rfl|rfl|rfl|rfl|rfl|rfl|rfl|rfl|rfl|rfl|rfl|rfl|rfl
   ·refine' LK.vn ?a ?l ?c ?k rfl;(case a=>k_is);(case l=>k_is);(case c=>k_is);(case k=>k_is)
   ·refine' LK.vn ?a ?l ?c ?k rfl;(case a=>k_is);(case l=>k_is);(case c=>k_is);(case k=>k_is)
   ·refine' LK.vn ?a ?l ?c ?k rfl;(case a=>k_is);(case l=>k_is);(case c=>k_is);(case k=>k_is)
   ·refine' LK.vn ?a ?l ?c ?k rfl;(case a=>k_is);(case l=>k_is);(case c=>k_is);(case k=>k_is)
   ·refine' LK.vn ?a ?l ?c ?k rfl;(case a=>k_is);(case l=>k_is);(case c=>k_is);(case k=>k_is)
   ·refine' LK.IF ?a ?l ?c ?k ?y ?u;(case a=>k_is);(case l=>k_is);(case c=>k_is);(case k=>k_is);(case y=>exact List.Mem.head _);(case u=>kernel_rfl)
   ·refine' LK.vn ?a ?l ?c ?k rfl;(case a=>k_is);(case l=>k_is);(case c=>k_is);(case k=>k_is)
   ·refine' LK.vn ?a ?l ?c ?k rfl;(case a=>k_is);(case l=>k_is);(case c=>k_is);(case k=>k_is)
   ·refine' LK.vn ?a ?l ?c ?k rfl;(case a=>k_is);(case l=>k_is);(case c=>k_is);(case k=>k_is)
   ·refine' LK.vn ?a ?l ?c ?k rfl;(case a=>k_is);(case l=>k_is);(case c=>k_is);(case k=>k_is)
   ·refine' LK.vn ?a ?l ?c ?k rfl;(case a=>k_is);(case l=>k_is);(case c=>k_is);(case k=>k_is)
   ·refine' LK.vn ?a ?l ?c ?k rfl;(case a=>k_is);(case l=>k_is);(case c=>k_is);(case k=>k_is)
   ·refine' LK.vn ?a ?l ?c ?k rfl;(case a=>k_is);(case l=>k_is);(case c=>k_is);(case k=>k_is)
   ·refine' LK.IF ?a ?l ?c ?k ?y ?u;(case a=>k_is);(case l=>k_is);(case c=>k_is);(case k=>k_is);(case y=>exact List.Mem.tail _ (List.Mem.head _));(case u=>kernel_rfl)
   ·refine' LK.vn ?a ?l ?c ?k rfl;(case a=>k_is);(case l=>k_is);(case c=>k_is);(case k=>k_is)
   ·refine' LK.vn ?a ?l ?c ?k rfl;(case a=>k_is);(case l=>k_is);(case c=>k_is);(case k=>k_is)
   ·refine' LK.vn ?a ?l ?c ?k rfl;(case a=>k_is);(case l=>k_is);(case c=>k_is);(case k=>k_is)
   ·refine' LK.vn ?a ?l ?c ?k rfl;(case a=>k_is);(case l=>k_is);(case c=>k_is);(case k=>k_is)
   ·refine' LK.vn ?a ?l ?c ?k rfl;(case a=>k_is);(case l=>k_is);(case c=>k_is);(case k=>k_is)
   ·refine' LK.vn ?a ?l ?c ?k rfl;(case a=>k_is);(case l=>k_is);(case c=>k_is);(case k=>k_is)
   ·refine' LK.vn ?a ?l ?c ?k rfl;(case a=>k_is);(case l=>k_is);(case c=>k_is);(case k=>k_is)
   ·refine' LK.vn ?a ?l ?c ?k rfl;(case a=>k_is);(case l=>k_is);(case c=>k_is);(case k=>k_is)
   ·refine' LK.vn ?a ?l ?c ?k rfl;(case a=>k_is);(case l=>k_is);(case c=>k_is);(case k=>k_is)
   ·refine' LK.vn ?a ?l ?c ?k rfl;(case a=>k_is);(case l=>k_is);(case c=>k_is);(case k=>k_is)
   ·refine' LK.vn ?a ?l ?c ?k rfl;(case a=>k_is);(case l=>k_is);(case c=>k_is);(case k=>k_is)
   ·refine' LK.vn ?a ?l ?c ?k rfl;(case a=>k_is);(case l=>k_is);(case c=>k_is);(case k=>k_is)
   ·refine' LK.vn ?a ?l ?c ?k rfl;(case a=>k_is);(case l=>k_is);(case c=>k_is);(case k=>k_is)
   ·refine' LK.vn ?a ?l ?c ?k rfl;(case a=>k_is);(case l=>k_is);(case c=>k_is);(case k=>k_is)
   ·refine' LK.vn ?a ?l ?c ?k rfl;(case a=>k_is);(case l=>k_is);(case c=>k_is);(case k=>k_is)
   ·refine' LK.vn ?a ?l ?c ?k rfl;(case a=>k_is);(case l=>k_is);(case c=>k_is);(case k=>k_is)
   ·refine' LK.IF ?a ?l ?c ?k ?y ?u;(case a=>k_is);(case l=>k_is);(case c=>k_is);(case k=>k_is);(case y=>exact List.Mem.tail _ (List.Mem.tail _ (List.Mem.head _)));(case u=>kernel_rfl)
   ·refine' LK.vn ?a ?l ?c ?k rfl;(case a=>k_is);(case l=>k_is);(case c=>k_is);(case k=>k_is)
   ·refine' LK.vn ?a ?l ?c ?k rfl;(case a=>k_is);(case l=>k_is);(case c=>k_is);(case k=>k_is)
   ·refine' LK.vn ?a ?l ?c ?k rfl;(case a=>k_is);(case l=>k_is);(case c=>k_is);(case k=>k_is)
  case hB=>
   intro x hx
   simp only[Pu.vm,List.mem_cons,List.not_mem_nil,or_false]at hx
   rcases hx with rfl|rfl|rfl|rfl|rfl|rfl|rfl|rfl|rfl|rfl|rfl|rfl|rfl|rfl|rfl|rfl|rfl|rfl|rfl|rfl
   all_goals k_is
  (case xa0=>k_is)
  (case xe0=>k_exc)
  (case xv0=>k_is)
  (case xa1=>k_is)
  (case xe1=>k_exc)
  (case xv1=>k_is)
  (case xa2=>k_is)
  (case xe2=>k_exc)
  (case xv2=>k_is)
  (case xp0=>kts_exm)
  (case xp1=>kts_exm)
  (case xp2=>kts_exm)
  (case xp3=>kts_exm)
  (case xp4=>kts_exm)
end
