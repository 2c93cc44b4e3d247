import PyProof.Rows.All
import Wide.All
import OpenK.AllK
import Wide.FinOn
import Lean
import PyProof.EqAt
import PyProof.EqKinds
import PyProof.TupleCall
import KE.KTryMore
import KE.KDictLaws
import KE.KDictList
import KE.KDictOf
import PyProof.AttrMiss
import PyProof.SetScanFacts
import PyProof.SetKind
import PyProof.WalkInts
import KE.KIntText
import PyProof.ZipIter
import KE.KMinKey
import KE.RegKTryMore
import PySem.Challenge.RW_askbook_k05_whole_every_book
set_option Elab.async false
set_option linter.all false
set_option maxRecDepth 100000
set_option maxHeartbeats 4000000
open PySem renaming wpAny_bind→aA,wpAny_pure→aB,Value→aH,sizeLine→aM,Shared→aN,wpAny→aQ,starEach→bF,model→bI,Program→bQ,wpAny_call_entry→bW,wpAny_callSpecial?_slot→cA,wpAny_newObj_type→cD,rawInt→cE,World→cF,wpAny_mono→cK,wpAny_seqItems→cL,compareOp→cN,wpAny_field→cQ,Around→cS,mainGlobals→cY,SetTable→dN,wpAny_holding→dO,wpAny_setField_rec→dP,wpAny_truthy_bool→dW,wpAny_setState_of→dZ,cLine→eD,wpAny_setField→eE,codeAny_builtin→eO,wpAny_forIn_list→eP,sizeLine_eq→eU,plainId_quiet→eX,wpAny_isInstance→fB,backTo→fG,pyNext→fH,sysModules→fN,wpAny_attempt→fS,wpAny_typeNameOfWhole_keyiter→fT,mem_of_lookup→gA,wpAny_setEntries_of→gD,bootBuiltins→gE,Scope→gI,swapsWith→gO,wpAny_Call_Name_kw→gR,firstArgMember→gS,wpAny_specialOf→gX,wpAny_updateSeq→gZ,foldedSetIterable→hJ,codeAny→hU,wpAny_typeOf→hV,ofAClassStatement→iE,wpAny_rule→iG,wpAny_typeNameOf_keyiter→iK,binaryOp→iO,NameKind→iP,wpAny_askSetting→iS,IsTupleKey→iV,Keyword→iZ,PyData→jC,FuncData→jG,wpAny_loadPart'→jH,wpAny_ite_split→jI,attributeBase→jJ,wpAny_pyIter_list→jO,wpAny_pyIter_slot→jQ,assignEach→jX,wpAny_tryCatch→kC,wpAny_fieldsOf→kF,wpAny_letGo→kG,codeAny_mono→kJ,behindInMarks→kR,wpAny_passesOwn→kX,sliceBounds→lC,keywordEach→lD,wpAny_of_eq→lF,hashByValue→lG,isSubtype_stop→lP,wpAny_pyIter_enum→lS,argBest→lT,isSubtype_tuple_tuple→lU,builtinLookup_eq_fast→lW,builtinsNs→lZ,fresh→mG,lookup_relabel_local→mI,wpAny_updateSeq_pair→mK,letOwnedTupleGo→mL,relabel→mT,seqItems?→mY,wpAny_tupleItemsOf→mZ,wpAny_newTuple→nC,IsEnum→nF,wpAny_dictEntries→nS,wpAny_handled→nX,wpAny_onRaise→oA,noFill_tuple_add→oD,backToKw→oE,concat_meets→oP,IsPart→oQ,getItem→oR,wpAny_execs_nil→oV,typeLookup_type→oY,wpAny_dictEpoch→oZ,raiseNew→pG,wpAny_throw→pH,IsPair→pI,eqIsQuiet→pM,lastMarks→pN,holding→pO,cellsFrom→pP,valueAt→pQ,callerA→pR
open PySem.Heap renaming get?_push_of_some→aC,lt_size→aP,get?_push_size→aT,get?_update_self→cG,get?_update_other→cH,SameBut→cJ,size_push→dB,get?_none_of_le→mF,ExtBut→nT,get?→pT
open List renaming mem_cons_of_mem→aE,length_map→aF,map_cons→aG,mem_cons_self→aI,length_cons→aL,getElem?_set_self→aS,length_append→aU,getElem?_set_ne→aV,replicate→bE,size_toArray→bL,getElem?_map→bN,getElem?_eq_getElem→bP,range→bT,map_map→bV,mem_of_getElem?→bY,getD_eq_getElem?_getD→cB,length_set→cC,all_cons→cP,mem_cons→cR,getElem?_append_left→cW,getElem?_append_right→dA,getElem?_eq_none→dC,filterMap_cons→dE,map_append→dH,length_replicate→dQ,length_drop→dR,getElem?_cons_succ→dU,drop_eq_getElem_cons→eB,mem_append_right→eI,cons_lt_cons_iff→eJ,length_range→eL,append_nil→eM,map_congr_left→eQ,length_nil→eZ,length_take→fC,not_mem_nil→fE,getElem?_of_mem→fF,nodup_nil→fI,nil_append→fJ,all_eq_true→fP,any_cons→fQ,getElem?_cons_zero→fU,find?_cons→gY,ext_getElem?→iC,mem_of_mem_drop→iD,length_filterMap_le→iM,length→iU,map_nil→jB,drop_of_length_le→jE,pairwise_map→jP,flatMap_cons→jU,mem_append_left→jW,lt_irrefl→kE,drop_zero→kH,getElem_mem→kK,getElem?_range→kM,append_assoc→lM,take_append_drop→lX,cons_append→mB,lt_trans→mE,mem_append→mQ,zip_cons_cons→nA,set_cons_succ→nI,set_cons_zero→nJ,map_drop→nZ,drop_length→oG,lookup_cons→oH,map_snd_zip→oJ,map_fst_zip→oK,isEmpty_nil→oM,mem_map→oS,of_mem_zip→oW,forIn_cons→oX,foldl_cons→pC,map_id→pK,Perm→pS
open Bool renaming and_eq_true→aO,not_true→dD,or_eq_true→fY,true_and→gN,not_false→iN,and_false→kB,not_eq_true'→nR
open Nat renaming le_refl→aR,ne_of_lt→bH,lt_of_lt_of_le→bS,le_trans→cM,lt_irrefl→cO,zero_le→cT,ne_of_gt→eK,lt_or_ge→gH,lt_succ_of_lt→iB,le_add_right→iR,le_of_eq→jD,lt_trichotomy→jR,lt_trans→lJ,zero_add→lQ,lt_succ_self→mD,le_succ→mH,add_assoc→nU,le_of_not_lt→oF
open PySem.W renaming Frag→bA,mg_of→cV,keepIn→dI,exmOne→eW,fnOf→eY,kia_one→fX,excIn→gK,nsIn→iF,codeIn→iQ,kitOne→kA,subIn→kU,tabObj→nG,methodObj→nM,codeHdIn→oO,kitMeta→pD
open Array renaming length_toList→bB,getElem?_eq_getElem→bJ,getElem?_toList→bR,forIn_toList→fM,getD→nB
open PySem.PyData renaming canLayAll0→bC,strOk→bO,eqv→bZ,depthAll→cI,int→eC,canLay0→eF,eqvAll→fR,depth→jF,str→nL
open Option.some renaming inj→bM,injEq→lK
open PySem.Value renaming none→bU,ref→bX,int→gW,type→iW,bool→lY,str→pL
open PySem.SeqAt renaming shaped→cU,canLay_of_shaped→gG,readOf→mU
open PySem.Heap.SameBut renaming update→cX
open PySem.Builtin.SmallTypes renaming ownedTupleIsFree→cZ,nextOf→dG,ownedTupleHandOut→eS
open PySem.Str renaming ofString→dJ
open PySem.Around renaming under_plainId→dM
open Ne renaming symm→dX
open Int renaming toNat_natCast→dY,ofNat→eV,emod_lt_of_pos→nD,cast_ofNat_Int→nH,emod_nonneg→pA
open PySem.Builtin.Tuple renaming tupleHashOf→eA,tupleExact→iH,tupleItemsOf→jV
open PySem.Obj renaming mapFields→eN,data_mapFields→fO,isFreed_of_fields→jK,mapSeq→jZ,putSet→kZ,cls_mapFields→nQ
open PyProof.Rows.F renaming plain_set_update_loop→eR,entry_set_update_loop→kN
open PyProof.Rows renaming slot_tuple_getitem→fL,IsTupIter→fV,callWith_type1→gF,IsTup→jN,slot_tupleiter_next→kP,room_in_shaped→lN,AllBare→mS,envOfC→nV,seqObj→nW,iter_tuple→oU
open Option renaming map_some→fW,isSome_map→nO
open PySem.F renaming slot_dict_keyiterator_next→fZ,plain_max_loop→gQ,slot_set_iter→jL,slot_enumerate_next→jM,args_tuple_add_2→kS,entry_tuple_add→lB,plainAttrs_list→lE,slot_tuple_add→lH,slot_dict_get→lV,args_dict_keyiterator_next_1→mC,entry_dict_keyiterator_next→mJ,slot_dict_setdefault→mO,slot_zip_next→mR,entry_max_loop→oN
open PySem.NameKind renaming free→gJ
open PySem.Builtin.Slice renaming slicePlaces→gU,sliceAdjust→kL
open Classical renaming byContradiction→gV
open PySem.Builtin.List renaming listTooLong→iI,listExtendWith→jT,listLengthHint→mV
open PySem.AutoSeq1 renaming wpAny_loadPart'→iJ
open List.Perm renaming refl→iT,swap→lO
open PySem.Calls renaming spliced_cons→iX,evalArgs_plain→jY,callWith_builtin→lI,spliced_nil→nN
open False renaming elim→iY
open True renaming intro→jA
open PySem.SetTable renaming insertAt→jS,below→nE,fits→nY
open Sum renaming inl→kI,inr→kW
open PySem.Paired renaming length→kQ
open Std renaming lt_of_le_of_ne→kY
open PySem.Builtin.Str renaming occurrences→lA
open List.Pairwise renaming imp→lR,nil→nP
open ForInStep renaming yield→mM
open PySem.Builtin.Dict_items renaming ownsTuple→mP
open PySem.Builtin.Builtins renaming bindParams→mW
open PySem.Data renaming cell→oC,fields→pF
open Sum.inl renaming inj→pE
open ToString renaming toString→pJ
abbrev aJ.{u}:=@if_pos.{u}
abbrev aK.{u}:=@if_neg.{u}
set_option bootstrap.genMatcherCode false
set_option compiler.extract_closed false
noncomputable section
section
namespace L2
open PySem
def vg:List Str:=["many"]
end L2
end
section
namespace L2
open PySem PySem.Spec PyProof.Rows
abbrev gi:=Sum Int Str
def Bb:gi->aH->Bool
 |.inl k,v=>Value.isInt k v
 |.inr x,v=>Value.isStrOf x v
def WC(w:cF):gi->Int
 |.inl k=>hashInt k
 |.inr x=>hashStr w x
def cj:∀{k:gi}{v:aH},Bb k v=true->(∃i t,k=kI i/\v=gW i t)\/(∃x t,k=kW x/\v=pL x t)
 |.inl i,v,h=>by
  obtain⟨t,e⟩:=Value.isInt_shape (k:=i) (v:=v) h;exact .inl ⟨i,t,rfl,e⟩
 |.inr x,v,h=>by
  obtain⟨t,e⟩:=Value.isStrOf_shape (x:=x) (v:=v) h;exact .inr ⟨x,t,rfl,e⟩
def Te(i:Int)(t:Tok):Bb (.inl i) (.int i t)=true:=by simp[Bb,Value.isInt]
def Tf(x:Str)(t:Tok):Bb (.inr x) (.str x t)=true:=by simp[Bb,Value.isStrOf]
def KY(a b:Int):decide ((kI a:gi)=kI b)=(a==b):=by
 by_cases e:a=b
 ·subst e;simp
 ·have h:¬(kI a:gi)=kI b:=λq=>e (pE q);rw[decide_eq_false h];exact(beq_eq_false_iff_ne.mpr e).symm
def KQ(a b:Str):decide ((kW a:gi)=kW b)=decide (a=b):=by
 by_cases e:a=b
 ·subst e;simp
 ·have h:¬(kW a:gi)=kW b:=λq=>e (Sum.inr.inj q);rw[decide_eq_false h,decide_eq_false e]
def KW(a:Int)(b:Str):decide ((kI a:gi)=kW b)=false:=decide_eq_false (λq=>nomatch q)
def KR(a:Str)(b:Int):decide ((kW a:gi)=kI b)=false:=decide_eq_false (λq=>nomatch q)
def bb(prog:bQ)(w:cF):PySem.KeyKind prog w gi where
 is:=Bb
 hash:=WC w
 inj:=λv a b ha hb=>by
  rcases cj ha with ⟨i,t,rfl,rfl⟩|⟨x,t,rfl,rfl⟩
  ·rcases cj hb with ⟨j,u,rfl,e⟩|⟨y,u,rfl,e⟩
   ·injection e with e1 _;rw[e1]
   ·exact nomatch e
  ·rcases cj hb with ⟨j,u,rfl,e⟩|⟨y,u,rfl,e⟩
   ·exact nomatch e
   ·injection e with e1 _;rw[e1]
 byValue:=λk v h=>by
  rcases cj h with ⟨i,t,rfl,rfl⟩|⟨x,t,rfl,rfl⟩<;>rfl
 pyHash:=λhv h=>by
  rcases cj hv with ⟨i,t,rfl,rfl⟩|⟨x,t,rfl,rfl⟩
  ·exact wpAny_pyHash_int h
  ·exact wpAny_pyHash_str h
 eqBool:=λhu hv h=>by
  rcases cj hu with ⟨i,t,rfl,rfl⟩|⟨x,t,rfl,rfl⟩
  ·rcases cj hv with ⟨j,u,rfl,rfl⟩|⟨y,u,rfl,rfl⟩
   ·rw[KY]at h;exact wpAny_eqBool_int h
   ·rw[KW]at h;exact SeqAt.EqAt.int_str i t y u _ _ _ _ h
  ·rcases cj hv with ⟨j,u,rfl,rfl⟩|⟨y,u,rfl,rfl⟩
   ·rw[KR]at h;exact SeqAt.EqAt.str_int x t j u _ _ _ _ h
   ·rw[KQ]at h;exact wpAny_eqBool_str h
 «strs»:=λk x t v h=>by
  rcases cj h with ⟨i,u,rfl,e⟩|⟨y,u,rfl,e⟩
  ·exact nomatch e
  ·injection e with e1 _
   subst e1;cases v<;>rfl
def Ls(prog:bQ)(w:cF)(i:Int)(t:Tok):(bb prog w).is (.inl i) (.int i t)=true:=Te i t
def Lu(prog:bQ)(w:cF)(x:Str)(t:Tok):(bb prog w).is (.inr x) (.str x t)=true:=Tf x t
end L2
namespace L2
open PySem PySem.Spec PyProof.Rows
abbrev NK:=Sum gi (List gi)
abbrev bf:=List NK
def B3(prog:bQ)(w:cF)(h:Heap):NK->aH->Prop
 |.inl k,v=>(bb prog w).is k v=true
 |.inr ks,v=>∃b,v=.ref b/\iV (bb prog w) h ks b
def NItems(prog:bQ)(w:cF)(h:Heap):bf->List aH->Prop
 |[],vs=>vs=[]
 |k::r,vs=>∃v t,vs=v::t/\B3 prog w h k v/\NItems prog w h r t
def cm(prog:bQ)(w:cF)(h:Heap)(ks:bf)(a:Addr):Prop:=∃o items n,h.get? a=some o/\o.cls=.type "tuple"/\o.data=.seq items n/\NItems prog w h ks items.toList
section
variable{prog:bQ}{w:cF}
def Xf:∀{x y:NK}{v:aH},B3 prog w h x v->B3 prog w h y v->x=y
 |.inl a,.inl b,v,h1,h2=>by rw[(bb prog w).inj v a b h1 h2]
 |.inl a,.inr ys,v,h1,⟨b,e,_⟩=>by subst e;exact absurd ((bb prog w).byValue _ _ h1) (by intro z;cases z)
 |.inr xs,.inl b,v,⟨c,e,_⟩,h2=>by subst e;exact absurd ((bb prog w).byValue _ _ h2) (by intro z;cases z)
 |.inr xs,.inr ys,v,⟨b,e,q⟩,⟨c,e',q'⟩=>by subst e;cases e';rw[q.inj q']
theorem NItems.inj:∀{x y:bf}{vs:List aH},NItems prog w h x vs->NItems prog w h y vs->x=y
 |[],[],_,_,_=>rfl
 |[],_::_,vs,h1,⟨v,t,e,_⟩=>by rw[show vs=[]from h1]at e;cases e
 |_::_,[],vs,⟨v,t,e,_⟩,h2=>by rw[show vs=[]from h2]at e;cases e
 |a::x,b::y,vs,⟨v,t,e,h1,h2⟩,⟨v',t',e',h1',h2'⟩=>by
  subst e;cases e';rw[Xf h1 h1',NItems.inj h2 h2']
def Ol{h h':Heap}{o:Obj}{es ep}(ho:h.get? d=some o)(hd:o.data=.dict es ep)(hs:cJ d h h'):∀{k:NK}{v:aH},B3 prog w h k v->B3 prog w h' k v
 |.inl k,v,e=>e
 |.inr ks,v,⟨b,e,q⟩=>⟨b,e,q.keeps ho hd hs⟩
theorem NItems.keeps{h h':Heap}{o:Obj}{es ep}(ho:h.get? d=some o)(hd:o.data=.dict es ep)(hs:cJ d h h'):∀{ks:bf}{vs:List aH},NItems prog w h ks vs->NItems prog w h' ks vs
 |[],_,e=>e
 |_::_,_,⟨v,t,e,h1,h2⟩=>⟨v,t,e,Ol ho hd hs h1,NItems.keeps ho hd hs h2⟩
def uq(w:cF)(prog:bQ):NK->Int
 |.inl k=>(bb prog w).hash k
 |.inr ks=>tupleKeyHash (bb prog w) ks
def Q7:NK->Nat
 |.inl _=>1
 |.inr ks=>ks.length+1
def zb(k:bf):Nat:=(k.map Q7).sum
variable{A:cS}{E:aH->aN->Prop}{s:aN}
def T8(hu:A.units<eD)(hk:B3 prog w s.heap k v)(h:Q (uq w prog k) {s with toks:=s.toks+Q7 k}):aQ (bI prog w) A (pyHash v) Q E s:=by
 cases k with
 |inl k=>exact(bb prog w).pyHash hk h
 |inr ks=>obtain⟨b,rfl,q⟩:=hk;exact wpAny_pyHash_tuple hu q h
def T9{ks:bf}(hu:A.units+4<eD)(hk:cm prog w s.heap ks a)(h:Q (reduceHash (eA (ks.map (uq w prog)))) {s with toks:=s.toks+(zb ks+1)}):
  aQ (bI prog w) A (pyHash (.ref a)) Q E s:=by
 obtain⟨o,items,n,ho,hc,hd,hi⟩:=hk;have hT:s.TypeIs (.ref a) "tuple":=⟨o,ho,hc⟩;unfold pyHash
 first|unfold pyHashByItsType|skip
 first|refine aA (wpAny_cRoomFor_or (.inr (by lia)) ?_)|skip
 refine aA (gX hT F.slot_tuple_hash.lookup ?_);show aQ _ _ (if(some (Value.builtin "tuple.__hash__")==some bU)=true then _ else _) Q E s;rw[aK (by rw[beq_builtin_none];exact Bool.false_ne_true)];refine aA (gX hT F.slot_tuple_hash.lookup ?_);show aQ _ _ (callSpecialIfBoundUnlessNone? (.ref a) "__hash__" _>>=_) Q E s;refine aA (wpAny_callSpecialIfBoundUnlessNone?_slot hT F.slot_tuple_hash (bW F.slot_tuple_hash hT F.entry_tuple_hash ?_ (F.args_tuple_hash_1 _)));show aQ _ _ (jV (.ref a)>>=_) _ _ s;refine aA (mZ ho hd ?_);refine aA ?_;rw[<-fM];refine eP _
  (λrest (b:Array Int) s'=>∃done left,ks=done++left/\NItems prog w s.heap left rest/\b.toList=done.map (uq w prog)/\s'={s with toks:=s.toks+zb done})
  _ ?_ ?_ _ _ ⟨[],ks,rfl,hi,rfl,rfl⟩
 ·rintro x rest b s' ⟨done,left,rfl,hl,hb,rfl⟩
  cases left with
  |nil=>cases (show x::rest=[]from hl)
  |cons k ks'=>
   obtain⟨v,t,e,h1,hl'⟩:=hl;cases e;refine aA (T8 (by show A.units+_<eD;lia) h1 ?_)
   first
    |exact aB ⟨done++[k],ks',by simp,hl',by simp[hb],by simp[zb,nU]⟩
    |exact aA (aB (aB ⟨done++[k],ks',by simp,hl',by simp[hb],by simp[zb,nU]⟩))
 ·rintro b s' ⟨done,left,rfl,hl,hb,rfl⟩
  cases left with
  |cons k ks'=>obtain⟨v,t,e,_⟩:=hl;cases e
  |nil=>
  rw[eM]at h;show aQ _ _ (retInt (eA b.toList)) _ _ _;rw[hb];refine wpAny_ret_mkInt ?_;show aQ _ _ (if(decide (-(2:Int) ^ 63<=eA (done.map (uq w prog))) && decide (eA (done.map (uq w prog))<2 ^ 63))=true then _ else _) Q E _;unfold reduceHash at h
  by_cases hr:(decide (-(2:Int) ^ 63<=eA (done.map (uq w prog))) && decide (eA (done.map (uq w prog))<2 ^ 63))=true
  ·rw[aJ hr];rw[aJ hr]at h;exact aB (by simpa[nU]using h)
  ·rw[aK hr];rw[aK hr]at h;exact aA (iG (aB (by simpa[nU]using h)))
def Ub(hk:iV (bb prog w) s.heap ks a)(h:Q true s):aQ (bI prog w) A (pM (n+1) (.ref a)) Q E s:=by
 have hT:=hk.typeIs;obtain⟨o,items,n,ho,_,hd,hi⟩:=hk;unfold pM;refine aA (gX hT F.slot_tuple_eq.lookup ?_);show aQ _ _ (isInstance (.ref a) (.type "tuple")>>=_) _ _ s;refine aA (fB hT lU ?_);simp only[dD,Bool.false_eq_true,if_false];refine aA (cL ho hd ?_);refine aA ?_;show aQ _ _ (forIn items _ _) _ _ s;rw[<-fM];refine eP _ (λrest r s'=>r.1=none/\s'=s/\∀v∈rest,carriedByValue v=true) _ ?_ ?_ _ _ ⟨rfl,rfl,hi.byValue⟩
 ·rintro v rest r s' ⟨hr,rfl,hall⟩
  rw[eqIsQuiet_byValue _ (hall v aI)];refine aA (aB ?_);simp only[dD,Bool.false_eq_true,if_false];exact aB ⟨rfl,rfl,λu hu'=>hall u (aE _ hu')⟩
 ·rintro ⟨r1,r2⟩ s' ⟨hr,rfl,_⟩
  simp only at hr;subst hr;exact aB h
def Ek(hk:cm prog w s.heap ks a)(h:Q true s):aQ (bI prog w) A (pM 8 (.ref a)) Q E s:=by
 obtain⟨o,items,n,ho,hc,hd,hi⟩:=hk;have hT:s.TypeIs (.ref a) "tuple":=⟨o,ho,hc⟩;unfold pM;refine aA (gX hT F.slot_tuple_eq.lookup ?_);show aQ _ _ (isInstance (.ref a) (.type "tuple")>>=_) _ _ s;refine aA (fB hT lU ?_);simp only[dD,Bool.false_eq_true,if_false];refine aA (cL ho hd ?_);refine aA ?_;show aQ _ _ (forIn items _ _) _ _ s;rw[<-fM];refine eP _ (λrest r s'=>r.1=none/\s'=s/\∃left,NItems prog w s.heap left rest) _ ?_ ?_ _ _ ⟨rfl,rfl,ks,hi⟩
 ·rintro v rest r s' ⟨hr,rfl,left,hl⟩
  cases left with
  |nil=>cases (show v::rest=[]from hl)
  |cons k ks'=>
   obtain⟨v',t,e,h1,hl'⟩:=hl;cases e;refine aA ?_;have go:aQ (bI prog w) A (pM 7 v) (λb s''=>b=true/\s''=s') E s':=by
    cases k with
    |inl k=>rw[eqIsQuiet_byValue _ ((bb prog w).byValue _ _ h1)];exact aB ⟨rfl,rfl⟩
    |inr ys=>obtain⟨b,rfl,q⟩:=h1;exact Ub q ⟨rfl,rfl⟩
   refine cK go (λb s'' ⟨e1,e2⟩=>?_) λ_ _ q=>q;subst e1 e2;simp only[dD,Bool.false_eq_true,if_false];exact aB ⟨rfl,rfl,ks',hl'⟩
 ·rintro ⟨r1,r2⟩ s' ⟨hr,rfl,_⟩
  simp only at hr;subst hr;exact aB h
def Gu(hu:A.units<eD)(hk:Bb k v=true)(hb:s.heap.IsTuple b its)(h:Q false s):aQ (bI prog w) A (eqBool v (.ref b)) Q E s/\aQ (bI prog w) A (eqBool (.ref b) v) Q E s:=by
 rcases cj hk with ⟨i,t,rfl,rfl⟩|⟨x,t,rfl,rfl⟩
 ·exact⟨SeqAt.EqAt.int_tuple i t hb hu _ _ _ _ h,SeqAt.EqAt.tuple_int i t hb hu _ _ _ _ h⟩
 ·exact⟨SeqAt.EqAt.str_tuple x t hb hu _ _ _ _ h,SeqAt.EqAt.tuple_str x t hb hu _ _ _ _ h⟩
def S3(hu:A.units<eD)(hx:B3 prog w s.heap x u)(hy:B3 prog w s.heap y v)(h:Q (decide (x=y)) s):aQ (bI prog w) A (eqBool u v) Q E s:=by
 cases x with
 |inl a=>
  cases y with
  |inl b=>exact(bb prog w).eqBool hx hy (by
    have e:decide (a=b)=decide ((kI a:NK)=kI b):=by by_cases q:a=b<;>simp[q]
    rw[e];exact h)
  |inr ys=>
   obtain⟨b,rfl,o,its,n,h1,h2,h3,_⟩:=hy;exact(Gu hu hx ⟨o,h1,h2,n,h3⟩ h).1
 |inr xs=>
  cases y with
  |inl b=>
   obtain⟨c,rfl,o,its,n,h1,h2,h3,_⟩:=hx;exact(Gu hu hy ⟨o,h1,h2,n,h3⟩ h).2
  |inr ys=>
   obtain⟨b,rfl,q⟩:=hx;obtain⟨c,rfl,q'⟩:=hy;exact wpAny_eqBool_tuple hu q q' (by
    have e:decide (xs=ys)=decide ((kW xs:NK)=kW ys):=by by_cases q:xs=ys<;>simp[q]
    rw[e];exact h)
theorem NItems.length:∀{x:bf}{vs:List aH},NItems prog w h x vs->x.length=vs.length
 |[],vs,e=>by rw[show vs=[]from e];rfl
 |_::_,_,⟨v,t,e,_,h2⟩=>by rw[e,aL,aL,NItems.length h2]
def Pm(hu:A.units+2<eD)(hx:cm prog w s.heap x a)(hy:cm prog w s.heap y b)(h:P (.done (.ret (.bool (decide (x=y))))) s):
  aQ (bI prog w) A (Builtin.«tuple.__eq__» ⟨[.ref a,.ref b],[]⟩) P E s:=by
 obtain⟨oa,xs,na,hoa,hca,hda,hia⟩:=hx;obtain⟨ob,ys,nb,hob,hcb,hdb,hib⟩:=hy;have hTb:s.TypeIs (.ref b) "tuple":=⟨ob,hob,hcb⟩;show aQ _ _ (isInstance (.ref b) (.type "tuple")>>=_) _ _ s;refine aA (fB hTb lU ?_);simp only[dD,Bool.false_eq_true,if_false];refine aA (mZ hoa hda ?_);refine aA (mZ hob hdb ?_);refine aA ?_;refine eP _
  (λrest r s'=>r.1=none/\s'=s/\∃x' y' xs' ys',rest=List.zip xs' ys'/\NItems prog w s.heap x' xs'/\NItems prog w s.heap y' ys'/\decide (x'=y')=decide (x=y)/\(xs'.length==ys'.length)=(xs.size==ys.size))
  _ ?_ ?_ _ _ ⟨rfl,rfl,x,y,xs.toList,ys.toList,rfl,hia,hib,rfl,by simp⟩
 ·rintro ⟨u,v⟩ rest r s' ⟨hr,rfl,x',y',xs',ys',hz,hx',hy',hdec,hlen⟩
  cases x' with
  |nil=>rw[show xs'=[]from hx']at hz;simp at hz
  |cons k1 x''=>
   cases y' with
   |nil=>rw[show ys'=[]from hy']at hz;simp at hz
   |cons k2 y''=>
    obtain⟨u',xs'',rfl,h1,hx''⟩:=hx';obtain⟨v',ys'',rfl,h2,hy''⟩:=hy';simp only[nA,List.cons.injEq,Prod.mk.injEq]at hz;obtain⟨⟨rfl,rfl⟩,rfl⟩:=hz;refine aA (S3 (by lia) h1 h2 ?_)
    by_cases hk:k1=k2
    ·subst hk;rw[decide_eq_true rfl];simp only[dD,Bool.false_eq_true,if_false];refine aB ⟨rfl,rfl,x'',y'',xs'',ys'',rfl,hx'',hy'',?_,by simpa using hlen⟩;rw[<-hdec]
     by_cases hxy:x''=y''
     ·simp[hxy]
     ·simp[hxy]
    ·rw[decide_eq_false hk];simp only[iN,if_true];have hf:decide (x=y)=false:=by rw[<-hdec];simp[hk]
     rw[hf]at h;exact aA (aB (aB (aB h)))
 ·rintro ⟨r1,r2⟩ s' ⟨hr,rfl,x',y',xs',ys',hz,hx',hy',hdec,hlen⟩
  simp only at hr;subst hr;refine aB ?_;have hfin:(xs.size==ys.size)=decide (x=y):=by
   rw[<-hdec,<-hlen,<-hx'.length,<-hy'.length];cases x' with
   |nil=>
    cases y' with
    |nil=>simp
    |cons _ _=>simp
   |cons _ _=>
    cases y' with
    |nil=>simp
    |cons _ _=>
     obtain⟨_,_,rfl,_⟩:=hx';obtain⟨_,_,rfl,_⟩:=hy';simp at hz
  show P (.done (.ret (.bool (xs.size==ys.size)))) s';rw[hfin];exact h
def S4(hu:A.units+4<eD)(hx:cm prog w s.heap x a)(hy:cm prog w s.heap y b)(h:Q (decide (x=y)) s):
  aQ (bI prog w) A (eqBool (.ref a) (.ref b)) Q E s:=by
 have tx:s.TypeIs (.ref a) "tuple":=let ⟨o,_,_,h1,h2,_⟩:=hx;⟨o,h1,h2⟩;have ty:s.TypeIs (.ref b) "tuple":=let ⟨o,_,_,h1,h2,_⟩:=hy;⟨o,h1,h2⟩;unfold eqBool
 try with_reducible refine dO ?_
 show aQ _ _ (if(bX a==bX b)=true then _ else _) Q E s
 by_cases hab:(bX a==bX b)=true
 ·rw[aJ hab];have e:a=b:=by have:=eq_of_beq hab;injection this
  subst e;obtain⟨o,items,n,ho,_,hd,hi⟩:=hx;obtain⟨o',items',n',ho',_,hd',hi'⟩:=hy;obtain rfl:o=o':=bM (ho.symm.trans ho');rw[hd]at hd';injection hd' with h1 _
  subst h1;obtain rfl:=hi.inj hi';exact aA (iG (aB (by simpa using h)))
 ·rw[aK hab];exact aA (wpAny_richCompare_same_room (op:=.Eq) tx ty F.slot_tuple_eq
   (bW F.slot_tuple_eq tx F.entry_tuple_eq (Pm (by show A.units+1+2<eD;lia) hx hy ⟨_,rfl,(λe=>nomatch e),dW h⟩) (F.args_tuple_eq_2 _ _)) (by lia))
end
noncomputable def a8(prog:bQ)(w:cF):HeapKind prog w bf where
 is:=cm prog w
 hash:=λk=>reduceHash (eA (k.map (uq w prog)))
 draws:=λk=>zb k+1
 room:=λA=>A.units+4<eD
 inj:=λhx hy=>by
  obtain⟨o,items,n,ho,_,hd,hi⟩:=hx;obtain⟨o',items',n',ho',_,hd',hi'⟩:=hy;obtain rfl:o=o':=bM (ho.symm.trans ho');rw[hd]at hd';injection hd' with h1 _
  subst h1;exact hi.inj hi'
 keeps:=λx ho hd hs=>by
  obtain⟨o',items,n,ho',hc,hd',hi⟩:=x;refine⟨o',items,n,(hs.2 _ ?_).trans ho',hc,hd',hi.keeps ho hd hs⟩
  rintro rfl
  obtain rfl:=bM (ho'.symm.trans ho);rw[hd]at hd';exact nomatch hd'
 pyHash:=λhu hk h=>T9 hu hk h
 eqBool:=λhu hx hy h=>S4 hu hx hy h
 quiet:=λhk h=>Ek hk h
def gf{A:cS}(h:A.units+5<eD):(a8 prog w).room A.in1:=by show A.units+1+4<eD;lia
end L2
namespace L2
open PySem PySem.Spec PyProof.Rows
inductive V where
 |non|bl (b:Bool)|int (i:Int)|str (x:Str)|byt (b:Array UInt8)|flt (b:UInt64)|ref (a:Addr)|ty (n:String)
 deriving DecidableEq
def RelV:V->aH->Prop
 |.non,u=>u=bU
 |.bl b,u=>u=lY b
 |.int i,u=>∃t,u=gW i t
 |.str x,u=>∃t,u=pL x t
 |.byt b,u=>∃t,u=Value.bytes b t
 |.flt b,u=>∃t,u=Value.float b t
 |.ref a,u=>u=bX a
 |.ty n,u=>u=iW n
abbrev Vals:List V->List aH->Prop:=Paired RelV
theorem Vals.length{xs:List V}{us:List aH}(r:Vals xs us):xs.length=us.length:=kQ r
theorem Vals.get:∀{xs:List V}{us:List aH}{i:Nat}{x:V},Vals xs us->xs[i]?=some x->∃u,us[i]?=some u/\RelV x u
 |_,_,_,_,.nil,e=>by simp at e
 |_,_,0,_,.cons r _,e=>by simp at e;subst e;exact⟨_,rfl,r⟩
 |_,_,i+1,x,.cons _ t,e=>by
  obtain⟨u,h1,h2⟩:=Vals.get (i:=i) (x:=x) t (by simpa using e);exact⟨u,by simpa using h1,h2⟩
theorem Vals.append:∀{xs ys:List V}{us ws:List aH},Vals xs us->Vals ys ws->Vals (xs++ys) (us++ws)
 |_,_,_,_,.nil,s=>s
 |_,_,_,_,.cons r t,s=>.cons r (Vals.append t s)
theorem Vals.take:∀{xs:List V}{us:List aH}(n:Nat),Vals xs us->Vals (xs.take n) (us.take n)
 |_,_,0,_=>.nil
 |_,_,_+1,.nil=>.nil
 |_,_,n+1,.cons r t=>.cons r (Vals.take n t)
theorem Vals.drop:∀{xs:List V}{us:List aH}(n:Nat),Vals xs us->Vals (xs.drop n) (us.drop n)
 |_,_,0,r=>r
 |_,_,_+1,.nil=>.nil
 |_,_,n+1,.cons _ t=>Vals.drop n t
def RelO:Option V->Option aH->Prop
 |some v,some u=>RelV v u
 |none,none=>True
 |_,_=>False
def KV:List (κ×V)->List (κ×aH)->Prop:=Paired λ(p:κ×V)(q:κ×aH)=>p.1=q.1/\RelV p.2 q.2
def kV:gi->V
 |.inl i=>.int i
 |.inr x=>.str x
inductive HO where
 |lst (xs:List V)
 |tup (xs:List V)
 |dK (kvs:List (gi×V))|dT (kvs:List (bf×V))
 |set (S:Int->Bool) (n:Nat)
 |ins (C dx:Addr) (fs:List (Str×V))
 |own (x:Addr)
 |xd (fs:List (Str×V))
 |met (f x:Addr)
 |rng (lo hi:Int)
 |frz (o:Obj) (u:HO)
 |tbl (q:Str)
 |ext (φ:Heap->Prop)
abbrev Hp:=Addr->Option HO
def upd(H:Hp)(a:Addr)(o:HO):Hp:=λb=>if b=a then some o else H b
def bp:upd H a o a=some o:=by unfold upd;rw[aJ rfl]
def aq(h:b≠a):upd H a o b=H b:=by unfold upd;rw[aK h]
def QG{H:Hp}{a b:Addr}{o u:HO}(h:H a=some o)(h':H b=some u)(d:o≠u):a≠b:=by
 intro e;subst e;rw[h]at h';exact d (bM h')
def bj{H:Hp}{a b:Addr}{o:HO}(h:H a=some o)(h':H b=none):a≠b:=by
 intro e;subst e;rw[h]at h';cases h'
def nkAt(H:Hp):NK->V->Prop
 |.inl k,v=>v=kV k
 |.inr ks,v=>∃b,v=.ref b/\H b=some (.tup (ks.map kV))
def NkL(H:Hp):bf->List V->Prop
 |[],vs=>vs=[]
 |k::r,vs=>∃v t,vs=v::t/\nkAt H k v/\NkL H r t
def TkAt(H:Hp)(k:bf)(b:Addr):Prop:=∃vs,H b=some (.tup vs)/\NkL H k vs
def nkAt.mono(ht:∀b xs,H b=some (.tup xs)->H' b=some (.tup xs)):∀{k:NK}{v:V},nkAt H k v->nkAt H' k v
 |.inl _,_,e=>e
 |.inr _,_,⟨b,e,q⟩=>⟨b,e,ht _ _ q⟩
theorem NkL.mono(ht:∀b xs,H b=some (.tup xs)->H' b=some (.tup xs)):∀{k:bf}{vs:List V},NkL H k vs->NkL H' k vs
 |[],_,e=>e
 |_::_,_,⟨v,t,e,q,r⟩=>⟨v,t,e,nkAt.mono ht q,NkL.mono ht r⟩
theorem TkAt.mono(ht:∀b xs,H b=some (.tup xs)->H' b=some (.tup xs))(h:TkAt H k b):TkAt H' k b:=
 let ⟨vs,h1,h2⟩:=h
 ⟨vs,ht _ _ h1,h2.mono ht⟩
def Trip(H:Hp)(q:Str):List aH->Prop
 |[]=>True
 |.int _ _::.int _ _::.ref c'::r=>(∃(oc:Obj) (vs:Array aH) (t:Tok),H c'=some (.frz oc (.own 0))/\oc.data=.fields vs/\vs[1]?=some (.str q t))/\Trip H q r
 |_=>False
def Trip.mono(hz:∀b o u,H b=some (.frz o u)->H' b=some (.frz o u))(l:List aH)(h:Trip H q l):Trip H' q l:=by
 fun_induction Trip H q l with
 |case1=>unfold Trip;trivial
 |case2 _ _ _ _ c' r ih=>
  obtain⟨⟨oc,vs,t,e1,e2⟩,h2⟩:=h;unfold Trip;exact⟨⟨oc,vs,t,hz _ _ _ e1,e2⟩,ih h2⟩
 |case3=>exact h.elim
section
variable(P:bQ)(w:cF)
def ObjOk(H:Hp)(h:Heap)(a:Addr):HO->Prop
 |.lst xs=>xs.length<=aM/\∃(its:List aH) (n:Nat),Vals xs its/\h.get? a=some {cls:=.type "list",data:=.seq its.toArray n}
 |.tup xs=>xs.length<=aM/\∃its:List aH,Vals xs its/\jN h a its.toArray
 |.dK kvs=>kvs.length<=aM/\(a==fN)=false/\∃vs,KV kvs vs/\h.DictOf (bb P w) a vs
 |.dT kvs=>kvs.length<=aM/\(a==fN)=false/\∃xs:List (bf×Addr×aH),
   Paired (λ(p:bf×V)(q:bf×Addr×aH)=>p.1=q.1/\TkAt H p.1 q.2.1/\RelV p.2 q.2.2) kvs xs/\
   ∃o es ep,h.get? a=some o/\o.ExactDict/\o.data=.dict es ep/\es.toList=xs.map (entryOfKey (a8 P w))/\(xs.map (·.1)).Nodup
 |.set S n=>h.SetOf (intKind P w) a S n
 |.ins C dx fs=>H dx=some (.own a)/\fs.length<=1000/\dx≠a/\h.get? a=some (PySem.W.instObj C dx)/\
   ∃mA,h.Ns1 dx mA/\(∀f,RelO (fs.lookup f) (mA f))/\PySem.Within mA (fs.map (·.1))
 |.own _=>∃o,h.get? a=some o
 |.xd fs=>∃mA,h.Ns1 a mA/\∀f,RelO (fs.lookup f) (mA f)
 |.rng lo hi=>∃t u v,h.get? a=some {cls:=.type "range",data:=.fields #[.int lo t,.int hi u,.int 1 v]}
 |.frz o u=>h.get? a=some o/\ObjOk H h a u
 |.tbl q=>∃ps:Array aH,h.get? a=some {cls:=.none,data:=.fields ps}/\Trip H q ps.toList
 |.met f x=>h.get? a=some (nM (.ref f) (.ref x))
 |.ext φ=>φ h/\(∃o,h.get? a=some o)/\∀h1 h2:Heap,φ h1->(∀o,h1.get? a=some o->h2.get? a=some o)->φ h2
def HOk(H:Hp)(h:Heap):Prop:=∀a o,H a=some o->ObjOk P w H h a o
end
section
variable{P:bQ}{w:cF}{H H':Hp}{h h':Heap}{a:Addr}{o:HO}
theorem ObjOk.lt(x:ObjOk P w H h a o):a<h.objs.size:=by
 cases o with
 |lst xs=>obtain⟨_,_,_,_,e⟩:=x;exact aP e
 |tup xs=>obtain⟨_,_,_,p⟩:=x;exact p.lt
 |dK kvs=>obtain⟨_,_,_,_,o,_,_,e,_⟩:=x;exact aP e
 |dT kvs=>obtain⟨_,_,_,_,o,_,_,e,_⟩:=x;exact aP e
 |set S n=>obtain⟨o,_,_,_,e,_⟩:=x;exact aP e
 |ins C dx fs=>obtain⟨_,_,_,e,_⟩:=x;exact aP e
 |own y=>obtain⟨_,e⟩:=x;exact aP e
 |xd fs=>obtain⟨_,⟨_,_,_,e,_⟩,_⟩:=x;exact aP e
 |rng lo hi=>obtain⟨_,_,_,e⟩:=x;exact aP e
 |frz ob u=>obtain⟨e,_⟩:=x;exact aP e
 |tbl q=>obtain⟨ps,e,_⟩:=x;exact aP e
 |met f y=>exact aP (show h.get? a=some _ from x)
 |ext φ=>obtain⟨_,⟨_,e⟩,_⟩:=x;exact aP e
theorem Paired.mapP:∀{l₁:List α}{l₂:List β},Paired F l₁ l₂->(∀a b,F a b->G a b)->Paired G l₁ l₂
 |_,_,.nil,_=>.nil
 |_,_,.cons r t,f=>.cons (f _ _ r) (Paired.mapP t f)
def ObjOk.stay(x:ObjOk P w H h a o)(k:∀b u,(b=a\/H b=some (.own a))->h.get? b=some u->h'.get? b=some u)
  (ho:∀b,H b=some (.own a)->H' b=some (.own a))(ht:∀b xs,H b=some (.tup xs)->H' b=some (.tup xs))(hz:∀b o u,H b=some (.frz o u)->H' b=some (.frz o u):=by exact λ_ _ _ q=>q):ObjOk P w H' h' a o:=by
 induction o with
 |lst xs=>obtain⟨z,its,n,r,e⟩:=x;exact⟨z,its,n,r,k _ _ (.inl rfl) e⟩
 |tup xs=>obtain⟨z,its,r,ob,e,c⟩:=x;exact⟨z,its,r,ob,k _ _ (.inl rfl) e,c⟩
 |dK kvs=>obtain⟨z,y,vs,r,ob,es,ep,e,c⟩:=x;exact⟨z,y,vs,r,ob,es,ep,k _ _ (.inl rfl) e,c⟩
 |dT kvs=>
  obtain⟨z,y,xs,r,ob,es,ep,e,c⟩:=x;exact⟨z,y,xs,Paired.mapP r λp q z=>⟨z.1,z.2.1.mono ht,z.2.2⟩,ob,es,ep,k _ _ (.inl rfl) e,c⟩
 |set S n=>obtain⟨ob,es,ep,t,e,c⟩:=x;exact⟨ob,es,ep,t,k _ _ (.inl rfl) e,c⟩
 |ins C dx fs=>
  obtain⟨d,z,ne,e,mA,⟨od,es,ep,e2,c⟩,r⟩:=x;exact⟨ho _ d,z,ne,k _ _ (.inl rfl) e,mA,⟨od,es,ep,k _ _ (.inr d) e2,c⟩,r⟩
 |own y=>obtain⟨ob,e⟩:=x;exact⟨ob,k _ _ (.inl rfl) e⟩
 |xd fs=>obtain⟨mA,⟨od,es,ep,e,c⟩,r⟩:=x;exact⟨mA,⟨od,es,ep,k _ _ (.inl rfl) e,c⟩,r⟩
 |rng lo hi=>obtain⟨t,u,v,e⟩:=x;exact⟨t,u,v,k _ _ (.inl rfl) e⟩
 |frz ob u ih=>obtain⟨e,q⟩:=x;exact⟨k _ _ (.inl rfl) e,ih q⟩
 |tbl q=>
  obtain⟨ps,e,r⟩:=x;exact⟨ps,k a _ (.inl rfl) e,r.mono hz⟩
 |met f y=>
  have e:h.get? a=some (nM (.ref f) (.ref y)):=x;show h'.get? a=some (nM (.ref f) (.ref y));exact k a _ (.inl rfl) e
 |ext φ=>obtain⟨p,⟨o,e⟩,st⟩:=x;exact⟨st _ _ p λo q=>k _ _ (.inl rfl) q,⟨o,k _ _ (.inl rfl) e⟩,st⟩
theorem HOk.lt(x:HOk P w H h)(e:H a=some o):a<h.objs.size:=(x a o e).lt
def HOk.fresh(x:HOk P w H h)(e:h.objs.size<=a):H a=none:=by
 cases q:H a with
 |none=>rfl
 |some u=>exact absurd (bS (x.lt q) e) (cO _)
def HOk.kept(x:HOk P w H h)(k:∀b u,h.get? b=some u->h'.get? b=some u):HOk P w H h':=λa o e=>
 (x a o e).stay (λb u _ q=>k b u q) (λ_ q=>q) λ_ _ q=>q
def HOk.laid(x:HOk P w H h)(k:∀b u,h.get? b=some u->h'.get? b=some u)(hp:h.objs.size<=a)(new:ObjOk P w (upd H a o) h' a o):HOk P w (upd H a o) h':=λb u e=>by
 have hn:=x.fresh hp
 by_cases hb:b=a
 ·subst hb;rw[bp]at e;cases e;exact new
 ·rw[aq hb]at e;exact(x b u e).stay (λc v _ q=>k c v q) (λc q=>by rw[aq (bj q hn)];exact q) (λc xs q=>by rw[aq (bj q hn)];exact q) λc ob u q=>by rw[aq (bj q hn)];exact q
end
def Rd(H:Hp)(a:Addr)(u:HO):Prop:=H a=some u\/∃o,H a=some (.frz o u)
def Rd.ok(r:Rd H a u)(x:HOk P w H h):ObjOk P w H h a u:=by
 rcases r with r|⟨o,r⟩
 ·exact x a u r
 ·obtain⟨_,q⟩:=x a _ r;exact q
def PV:Option HO->Prop
 |some (.lst _)=>True
 |some (.dK _)=>True
 |some (.dT _)=>True
 |some (.set _ _)=>True
 |some (.ins _ _ _)=>True
 |some (.ext _)=>True
 |_=>False
section
variable{P:bQ}{w:cF}{H:Hp}{h h':Heap}{x e:Addr}{o':HO}
def HOk.write(ok:HOk P w H h)(mu:PV (H x))(he:e=x\/H e=some (.own x))(k:∀b u,b≠e->h.get? b=some u->h'.get? b=some u)(heo:∃u,h'.get? e=some u)
  (new:ObjOk P w (upd H x o') h' x o'):HOk P w (upd H x o') h':=λb u q=>by
 have nown:∀c y,H c=some (.own y)->c≠x:=λc y r z=>by subst z;rw[r]at mu;exact mu
 have ntup:∀c xs,H c=some (.tup xs)->c≠x:=λc xs r z=>by subst z;rw[r]at mu;exact mu
 have nfrz:∀c ob v,H c=some (.frz ob v)->c≠x:=λc ob v r z=>by subst z;rw[r]at mu;exact mu
 by_cases hb:b=x
 ·subst hb;rw[bp]at q;cases q;exact new
 ·rw[aq hb]at q
  by_cases hbe:b=e
  ·have q':H b=some (.own x):=by
    rcases he with z|z
    ·exact absurd (hbe.trans z) hb
    ·rw[hbe];exact z
   rw[q]at q';cases q';obtain⟨v,hv⟩:=heo;exact⟨v,by rw[hbe];exact hv⟩
  ·refine(ok b u q).stay (λc v hc r=>k c v ?_ r) (λc r=>by rw[aq (nown c b r)];exact r) (λc xs r=>by rw[aq (ntup c xs r)];exact r) λc ob v r=>by rw[aq (nfrz c ob v r)];exact r
   rcases hc with rfl|hc
   ·exact hbe
   ·rintro rfl
    rcases he with z|z
    ·exact nown c b hc z
    ·rw[hc]at z;cases z;exact hb rfl
end
structure Un(fs ex:List Addr)(H H':Hp)(h h':Heap):Prop where
 keep:∀b o,h.get? b=some o->H b=none->b∉fs->b∉ex->h'.get? b=some o
 slot:∀b o,h.get? b=some o->H b=none->b∈fs->b∉ex->∃sl,h'.get? b=some {o with slots:=sl}
 free:∀b o,h.get? b=some o->H b=none->b∉ex->H' b=none
 there:∀b o,h.get? b=some o->b∉ex->∃o',h'.get? b=some o'
 tups:∀b xs,H b=some (.tup xs)->H' b=some (.tup xs)
 frzs:∀b o u,H b=some (.frz o u)->H' b=some (.frz o u)
 tbls:∀b q,H b=some (.tbl q)->H' b=some (.tbl q)
section
variable{fs fs' ex ex':List Addr}{H H1 H2:Hp}{h h1 h2 h':Heap}{a x e:Addr}{o:HO}
def Un.any(u:Un fs ex H H1 h h1)(q:h.get? b=some ob)(n:H b=none)(hx:b∉ex):∃sl,h1.get? b=some {ob with slots:=sl}:=by
 by_cases hb:b∈fs
 ·exact u.slot b ob q n hb hx
 ·exact⟨ob.slots,u.keep b ob q n hb hx⟩
def Un.trans(a:Un fs ex H H1 h h1)(b:Un fs ex H1 H2 h1 h2):Un fs ex H H2 h h2 where
 keep:=λc ob q n hc hx=>b.keep c ob (a.keep c ob q n hc hx) (a.free c ob q n hx) hc hx
 slot:=λc ob q n hc hx=>by
  obtain⟨sl,e1⟩:=a.slot c ob q n hc hx;obtain⟨sl',e2⟩:=b.slot c _ e1 (a.free c ob q n hx) hc hx;exact⟨sl',e2⟩
 free:=λc ob q n hx=>by
  obtain⟨o',e1⟩:=a.there c ob q hx;exact b.free c o' e1 (a.free c ob q n hx) hx
 there:=λc ob q hx=>by
  obtain⟨o',e1⟩:=a.there c ob q hx;exact b.there c o' e1 hx
 tups:=λc xs q=>b.tups c xs (a.tups c xs q)
 frzs:=λc ob xs q=>b.frzs c ob xs (a.frzs c ob xs q)
 tbls:=λp q z=>b.tbls p q (a.tbls p q z)
def Un.kept(k:∀b u,h.get? b=some u->h'.get? b=some u):Un fs ex H H h h':=
 ⟨λb ob q _ _ _=>k b ob q,λb ob q _ _ _=>⟨ob.slots,k b ob q⟩,λ_ _ _ n _=>n,λb ob q _=>⟨ob,k b ob q⟩,λ_ _ q=>q,λ_ _ _ q=>q,λ_ _ q=>q⟩
def Un.refl:Un fs ex H H h h:=Un.kept λ_ _ q=>q
def Un.laid(k:∀b u,h.get? b=some u->h'.get? b=some u)(hp:h.objs.size<=a)(hn:H a=none):Un fs ex H (upd H a o) h h' where
 keep:=λb u q _ _ _=>k b u q
 slot:=λb u q _ _ _=>⟨u.slots,k b u q⟩
 free:=λb u q n _=>by rw[aq (bH (bS (aP q) hp))];exact n
 there:=λb u q _=>⟨u,k b u q⟩
 tups:=λb xs q=>by rw[aq (bj q hn)];exact q
 frzs:=λb u xs q=>by rw[aq (bj q hn)];exact q
 tbls:=λb _ q=>by rw[aq (bj q hn)];exact q
def Un.write(mu:PV (H x))(he:e=x\/H e=some (.own x))(k:∀b u,b≠e->h.get? b=some u->h'.get? b=some u)(heo:∃u,h'.get? e=some u):Un fs ex H (upd H x o) h h':=by
 have hx:∀b,H b=none->b≠x:=λb n z=>by subst z;rw[n]at mu;exact mu
 have hb:∀b,H b=none->b≠e:=λb n z=>by
  subst z;rcases he with r|r
  ·exact hx b n r
  ·rw[n]at r;cases r
 have hm:∀b u,H b=some u->¬PV (some u)->b≠x:=λb u q nm z=>by subst z;rw[q]at mu;exact nm mu
 refine⟨λb u q n _ _=>k b u (hb b n) q,λb u q n _ _=>⟨u.slots,k b u (hb b n) q⟩,λb u q n _=>by rw[aq (hx b n)];exact n,λb u q _=>?_,
  λb xs q=>by rw[aq (hm b _ q λz=>z)];exact q,λb u xs q=>by rw[aq (hm b _ q λz=>z)];exact q,λb _ q=>by rw[aq (hm b _ q λz=>z)];exact q⟩
 by_cases hbe:b=e
 ·subst hbe;exact heo
 ·exact⟨u,k b u hbe q⟩
end
def UO(h:Heap)(H:Hp):List Addr:=(bT h.objs.size).filter λa=>(H a).isSome
def Fv(h:Heap)(H:Hp):Heap:=PySem.W.hideAll h (UO h H)
def S8(h:Heap)(H:Hp):(Fv h H).objs.size=h.objs.size:=PySem.W.hideAll_size _ _
def Wi{h:Heap}(e:h.get? b=some o)(n:H b=none):(Fv h H).get? b=some o:=
 PySem.W.hideAll_get _ e λhm=>by
  have q:(H b).isSome=true:=(List.mem_filter.mp hm).2;rw[n]at q;simp at q
def DV{h:Heap}(e:(Fv h H).get? b=some o):h.get? b=some o/\H b=none:=by
 have e':h.get? b=some o:=PySem.W.of_hideAll (UO h H) e;refine⟨e',?_⟩;cases q:H b with
 |none=>rfl
 |some x=>
  have hm:b∈UO h H:=List.mem_filter.mpr ⟨List.mem_range.mpr (aP e'),by simp[q]⟩;have z:(Fv h H).get? b=none:=PySem.W.hideAll_none (UO h H) hm;rw[z]at e;cases e
end L2
namespace L2
open PySem PySem.Spec PyProof.Rows
structure Mod(K:bA)(mg:Str->Option aH)(base:Heap):Prop where
 kin:K.In base
 glob:base.Ns cY mg
 blt:∃mb,base.Ns lZ mb/\∀x:Str,x≠"__name__"->mb x=gE x
 nolimit:base.NoLimit
structure Cx where
 prog:bQ
 w:cF
 K:bA
 mg:Str->Option aH
 base:Heap
 A:cS
 N:List Str
 s₀:aN
 H₀:Hp
 env:Env
 outer:List Env
 stack:List Env
 ex:List Addr
 fn:Str->Bool
 calm:Bool
 pn:List (Addr×Obj)
 xe:aH->aN->Prop
def Ft(l:List Env):List Addr:=l.filterMap (·.frame)
abbrev Cx.fs(X:Cx):List Addr:=Ft X.outer
def PP(sc:gI)(x:Str):Prop:=sc.names.lookup x=some .local\/sc.names.lookup x=some .cell\/sc.names.lookup x=some .free
def GB(sc:gI)(x:Str):Prop:=sc.names.lookup x=some .local\/sc.names.lookup x=some .cell
def WR(env:Env)(h:Heap)(m:Str->Option aH)(x:Str)(u:aH):Prop:=
 (env.kindOf x=some .local/\m x=some u)\/((env.kindOf x=some .cell\/env.kindOf x=some .free)/\∃c,env.cells.lookup x=some c/\h.IsCell c (some u))
structure Cx.Ok(X:Cx):Prop where
 mod:Mod X.K X.mg X.base
 kind:X.env.scope.kind=.function
 glob:X.env.globals=cY
 blt:X.env.builtins=lZ
 above:X.s₀.heap.objs.size<=X.env.locals
 inj:∀x y c,X.env.cells.lookup x=some c->X.env.cells.lookup y=some c->x=y
 has:∀x,(X.env.kindOf x=some .cell\/X.env.kindOf x=some .free)->∃c,X.env.cells.lookup x=some c
 cab:∀x c,X.fn x=true->X.env.cells.lookup x=some c->X.s₀.heap.objs.size<=c
 hd:X.calm=true->X.A.handled=none
 frames:X.A.frames=some X.stack
 stk:X.stack=X.outer\/(X.stack=X.env::X.outer/\X.env.frame=some X.env.locals)
 exf:∀b∈X.ex,b≠X.env.locals/\∀x c,X.env.cells.lookup x=some c->c≠b
 bs:∀b o,X.base.get? b=some o->X.s₀.heap.get? b=some o/\X.H₀ b=none
 bsz:X.base.objs.size<=X.s₀.heap.objs.size
 noex:∀b o,X.base.get? b=some o->b∉X.ex
 exfs:∀b∈X.ex,b∉X.fs
 funs:X.s₀.heap.FunFrames X.base X.outer
 frf:∀b∈X.fs,X.H₀ b=none
structure Inv(X:Cx)(pins:List (Addr×Obj))(U:List (Option V))(H:Hp)(s:aN):Prop where
 ok:X.Ok
 os:s.os=X.s₀.os
 bare:mS s.gens
 base:Un X.fs X.ex X.H₀ H X.s₀.heap s.heap
 loc:∃m,s.heap.Ns X.env.locals m/\∀(i:Nat)(x:Str)(v:V),X.N[i]?=some x->U[i]?=some (some v)->PP X.env.scope x->∃u,RelV v u/\WR X.env s.heap m x u
 cell:∀x c,X.env.cells.lookup x=some c->∃v,s.heap.IsCell c v
 free:H X.env.locals=none
 freeC:∀x c,X.env.cells.lookup x=some c->H c=none\/(X.fn x=false/\∃o,H c=some (.frz o (.own 0)))
 pin:∀p∈X.pn++pins,s.heap.get? p.1=some p.2/\H p.1=none/\p.1≠X.env.locals/\p.1∉X.fs/\∀v,p.2.data≠.cell v
 hok:HOk X.prog X.w H s.heap
 len:U.length=X.N.length
section
variable{X:Cx}{pins:List (Addr×Obj)}{U:List (Option V)}{H H':Hp}{s:aN}{h':Heap}
def Cx.Ok.nofr(ok:X.Ok)(e:X.base.get? b=some o):b∉X.fs:=λhb=>by
 have:=(ok.funs.mem hb).1;rw[e]at this;cases this
theorem Inv.bs(I:Inv X pins U H s):∀b o,X.base.get? b=some o->s.heap.get? b=some o/\H b=none:=λb o e=>
 ⟨I.base.keep b o (I.ok.bs b o e).1 (I.ok.bs b o e).2 (I.ok.nofr e) (I.ok.noex b o e),I.base.free b o (I.ok.bs b o e).1 (I.ok.bs b o e).2 (I.ok.noex b o e)⟩
def Inv.bk(I:Inv X pins U H s):∀b o,X.base.get? b=some o->s.heap.get? b=some o:=λb o e=>(I.bs b o e).1
theorem Inv.mod(I:Inv X pins U H s):Mod X.K X.mg X.base:=I.ok.mod
def Inv.kIn(I:Inv X pins U H s):X.K.In s.heap:=I.ok.mod.kin.keeps I.bk
theorem Inv.lt(I:Inv X pins U H s):X.env.locals<s.heap.objs.size:=let ⟨_,hn,_⟩:=I.loc;hn.lt
def Inv.sz(I:Inv X pins U H s):X.s₀.heap.objs.size<=s.heap.objs.size:=cM I.ok.above (Nat.le_of_lt I.lt)
def Inv.nofs(I:Inv X pins U H s)(h:s.heap.objs.size<=a):a∉X.fs:=λhb=>by
 obtain⟨_,o,ho,_⟩:=I.ok.funs.mem hb;exact absurd (bS (aP ho) (cM I.sz h)) (cO _)
def Inv.cne(I:Inv X pins U H s):∀x c,X.env.cells.lookup x=some c->c≠X.env.locals:=λx c e z=>by
 obtain⟨v,o,ho,hd⟩:=I.cell x c e;obtain⟨m,⟨o',es,ep,ho',hd',_⟩,_⟩:=I.loc;rw[z,ho']at ho;cases ho;rw[hd']at hd;cases hd
theorem Inv.funs(I:Inv X pins U H s):s.heap.FunFrames X.base X.outer:=by
 have all:∀(l:List Env),(∀b∈Ft l,b∈X.fs)->X.s₀.heap.FunFrames X.base l->s.heap.FunFrames X.base l:=by
  intro l;induction l with
  |nil=>intro _ _;trivial
  |cons env r ih=>
   intro hs hl;obtain⟨hk,⟨L,o,hf,hn,ho,hd⟩,hr⟩:=hl;have hL:L∈X.fs:=hs L (by unfold Ft;rw[dE,hf];exact aI);obtain⟨sl,e⟩:=I.base.slot L o ho (I.ok.frf L hL) hL λz=>I.ok.exfs L z hL;exact⟨hk,⟨L,_,hf,hn,e,hd⟩,ih (λb hb=>hs b (by unfold Ft;rw[dE,hf];exact aE _ hb)) hr⟩
 exact all X.outer (λ_ hb=>hb) I.ok.funs
theorem Inv.stack(I:Inv X pins U H s):s.heap.FunFrames X.base X.stack:=by
 rcases I.ok.stk with e|⟨e,hf⟩
 ·rw[e];exact I.funs
 ·rw[e];obtain⟨m,hn,_⟩:=I.loc;refine .cons (by rw[I.ok.kind];decide) hf hn ?_ I.funs;exact mF (cM I.ok.bsz I.ok.above)
def Inv.stkSub(I:Inv X pins U H s):∀b∈Ft X.stack,b∈X.env.locals::X.fs:=λb hb=>by
 rcases I.ok.stk with e|⟨e,hf⟩
 ·rw[e]at hb;exact aE _ hb
 ·rw[e]at hb;unfold Ft at hb;rw[dE,hf]at hb;exact hb
def Inv.stkFree(I:Inv X pins U H s):∀b∈Ft X.stack,H b=none:=λb hb=>by
 rcases List.mem_cons.mp (I.stkSub b hb)with e|hb
 ·rw[e];exact I.free
 ·obtain⟨_,o,ho,_⟩:=I.ok.funs.mem hb;exact I.base.free b o ho (I.ok.frf b hb) λz=>I.ok.exfs b z hb
def Inv.step{g':Array GenState}{t':Nat}{d':Drawn}{ch:List Addr}(I:Inv X pins U H s)
  (hch:∀b∈ch,(b∈X.ex\/X.s₀.heap.objs.size<=b)/\b≠X.env.locals/\(∀x c,X.env.cells.lookup x=some c->c≠b)/\∀p∈X.pn++pins,p.1≠b)
  (keep:∀b o,b≠X.env.locals->b∉X.fs->b∉ch->s.heap.get? b=some o->H b=none->h'.get? b=some o)
  (slot:∀b o,b≠X.env.locals->b∈X.fs->b∉ch->s.heap.get? b=some o->H b=none->∃sl,h'.get? b=some {o with slots:=sl}) (free:∀b o,b∉ch->s.heap.get? b=some o->H b=none->H' b=none)
  (there:∀b o,b∉ch->s.heap.get? b=some o->∃o',h'.get? b=some o')
  (tups:∀b xs,H b=some (.tup xs)->H' b=some (.tup xs)) (frzs:∀b o u,H b=some (.frz o u)->H' b=some (.frz o u)) (tbls:∀b q,H b=some (.tbl q)->H' b=some (.tbl q))
  (ns:∀m,s.heap.Ns X.env.locals m->h'.Ns X.env.locals m) (hok:HOk X.prog X.w H' h') (hg:mS g'):
  Inv X pins U H' {s with heap:=h',gens:=g',drawn:=d',toks:=t'}:=by
 have neL:∀b o,X.s₀.heap.get? b=some o->b≠X.env.locals:=λb o e=>bH (bS (aP e) I.ok.above);have neC:∀b o,X.s₀.heap.get? b=some o->b∉X.ex->b∉ch:=λb o e hx hb=>by
  rcases(hch b hb).1 with z|z
  ·exact hx z
  ·exact absurd (bS (aP e) z) (cO _)
 have cellK:∀x c,X.env.cells.lookup x=some c->∀v,s.heap.IsCell c v->h'.IsCell c v:=λx c e v ⟨o,ho,hd⟩=>by
  have nch:c∉ch:=λz=>(hch c z).2.2.1 x c e rfl;rcases I.freeC x c e with fr|⟨_,ob,fr⟩
  ·by_cases hc:c∈X.fs
   ·obtain⟨sl,q⟩:=slot c o (I.cne x c e) hc nch ho fr;exact⟨_,q,hd⟩
   ·exact⟨o,keep c o (I.cne x c e) hc nch ho fr,hd⟩
  ·obtain⟨q1,_⟩:=I.hok c _ fr;obtain⟨q2,_⟩:=hok c _ (frzs c ob _ fr);rw[ho]at q1;cases q1;exact⟨o,q2,hd⟩
 refine⟨I.ok,I.os,hg,⟨λb o e n hb hx=>?_,λb o e n hb hx=>?_,λb o e n hx=>?_,λb o e hx=>?_,λb xs e=>tups b xs (I.base.tups b xs e),λb o xs e=>frzs b o xs (I.base.frzs b o xs e),λb q e=>tbls b q (I.base.tbls b q e)⟩,?_,λx c e=>?_,?_,λx c e=>?_,λp hp=>?_,hok,I.len⟩
 ·exact keep b o (neL b o e) hb (neC b o e hx) (I.base.keep b o e n hb hx) (I.base.free b o e n hx)
 ·obtain⟨sl,e1⟩:=I.base.slot b o e n hb hx;obtain⟨sl',e2⟩:=slot b _ (neL b o e) hb (neC b o e hx) e1 (I.base.free b o e n hx);exact⟨sl',e2⟩
 ·obtain⟨o',e1⟩:=I.base.there b o e hx;exact free b o' (neC b o e hx) e1 (I.base.free b o e n hx)
 ·obtain⟨o',e1⟩:=I.base.there b o e hx;exact there b o' (neC b o e hx) e1
 ·obtain⟨m,hn,hl⟩:=I.loc;refine⟨m,ns m hn,λi x v e1 e2 e3=>?_⟩;obtain⟨u,r,l⟩:=hl i x v e1 e2 e3;refine⟨u,r,?_⟩;rcases l with l|⟨k,c,e,z⟩
  ·exact .inl l
  ·exact .inr ⟨k,c,e,cellK x c e _ z⟩
 ·obtain⟨v,z⟩:=I.cell x c e;exact⟨v,cellK x c e v z⟩
 ·obtain⟨m,⟨o,_,_,ho,_⟩,_⟩:=I.loc;exact free _ o (λz=>(hch _ z).2.1 rfl) ho I.free
 ·obtain⟨v,o,ho,hd⟩:=I.cell x c e;rcases I.freeC x c e with fr|⟨hf,ob,fr⟩
  ·exact .inl (free c o (λz=>(hch c z).2.2.1 x c e rfl) ho fr)
  ·exact .inr ⟨hf,ob,frzs c ob _ fr⟩
 ·obtain⟨e,n,ne,nf,d⟩:=I.pin p hp;have nch:p.1∉ch:=λz=>(hch p.1 z).2.2.2 p hp rfl;exact⟨keep p.1 p.2 ne nf nch e n,free p.1 p.2 nch e n,ne,nf,d⟩
def Inv.un(I:Inv X pins U H s)(u:Un X.fs [] H H' s.heap h')(hok:HOk X.prog X.w H' h'):Inv X pins U H' {s with heap:=h',toks:=t'}:=by
 obtain⟨m,⟨o,es,ep,ho,r⟩,_⟩:=id I.loc;obtain⟨sl,hL⟩:=u.any ho I.free (by simp);exact I.step (g':=s.gens) (d':=s.drawn) (ch:=[]) (λ_ z=>nomatch z) (λb o _ hb _ e n=>u.keep b o e n hb (by simp)) (λb o _ hb _ e n=>u.slot b o e n hb (by simp)) (λb o _ e n=>u.free b o e n (by simp)) (λb o _ e=>u.there b o e (by simp)) u.tups u.frzs u.tbls (λm' hm=>by
  obtain⟨o',es',ep',ho',r'⟩:=hm;rw[ho]at ho';cases ho';exact⟨_,es',ep',hL,r'⟩) hok I.bare
def Inv.call(I:Inv X pins U H s)(u:Un (Ft X.stack) ch H H' s.heap h')(hok:HOk X.prog X.w H' h')(hg:mS g')
  (hch:∀b∈ch,(b∈X.ex\/X.s₀.heap.objs.size<=b)/\b≠X.env.locals/\(∀x c,X.env.cells.lookup x=some c->c≠b)/\∀p∈X.pn++pins,p.1≠b):
  Inv X pins U H' {s with heap:=h',gens:=g',drawn:=d',toks:=t'}:=by
 obtain⟨m,⟨o,es,ep,ho,r⟩,_⟩:=id I.loc;obtain⟨sl,hL⟩:=u.any ho I.free λz=>(hch _ z).2.1 rfl;exact I.step (ch:=ch) hch (λb o hL hb hc e n=>u.keep b o e n (λz=>(List.mem_cons.mp (I.stkSub b z)).elim hL hb) hc) (λb o _ _ hc e n=>u.any e n hc) (λb o hc e n=>u.free b o e n hc) (λb o hc e=>u.there b o e hc) u.tups u.frzs u.tbls (λm' hm=>by
  obtain⟨o',es',ep',ho',r'⟩:=hm;rw[ho]at ho';cases ho';exact⟨_,es',ep',hL,r'⟩) hok hg
def Inv.turned(I:Inv X pins U H s)(k:∀b o,b≠it->s.heap.get? b=some o->h'.get? b=some o)(hn:H it=none)(hL:it≠X.env.locals)
  (h1:it∈X.ex\/X.s₀.heap.objs.size<=it)(h2:∀x c,X.env.cells.lookup x=some c->c≠it)(h3:∀p∈X.pn++pins,p.1≠it):Inv X pins U H {s with heap:=h',toks:=t'}:=by
 have nit:∀b u,H b=some u->b≠it:=λb u e z=>by rw[z,hn]at e;cases e
 refine I.step (g':=s.gens) (d':=s.drawn) (ch:=[it]) (λb hb=>?_) (λb o _ _ hc e _=>k b o (λz=>hc (by simp[z])) e) (λb o _ _ hc e _=>⟨o.slots,k b o (λz=>hc (by simp[z])) e⟩) (λ_ _ _ _ n=>n)
  (λb o hc e=>⟨o,k b o (λz=>hc (by simp[z])) e⟩) (λ_ _ e=>e) (λ_ _ _ e=>e) (λ_ _ e=>e) (λm hm=>?_) (λb u e=>?_) I.bare
 ·have e:b=it:=by simpa using hb
  subst e;exact⟨h1,hL,h2,h3⟩
 ·obtain⟨o,es,ep,ho,r⟩:=hm;exact⟨o,es,ep,k _ o (dX hL) ho,r⟩
 ·refine(I.hok b u e).stay (λc v hc q=>k c v ?_ q) (λ_ q=>q) λ_ _ q=>q;rcases hc with z|z
  ·rw[z];exact nit b u e
  ·exact nit c _ z
def Inv.tok(I:Inv X pins U H s)(t:Nat):Inv X pins U H {s with toks:=t}:=I.un (h':=s.heap) (t':=t) Un.refl I.hok
theorem Inv.kept(I:Inv X pins U H s)(k:∀b u,s.heap.get? b=some u->h'.get? b=some u):Inv X pins U H {s with heap:=h',toks:=t'}:=I.un (Un.kept k) (I.hok.kept k)
theorem Inv.laid(I:Inv X pins U H s)(k:∀b u,s.heap.get? b=some u->h'.get? b=some u)(hp:s.heap.objs.size<=a)(new:ObjOk X.prog X.w (upd H a o) h' a o):
  Inv X pins U (upd H a o) {s with heap:=h',toks:=t'}:=I.un (Un.laid k hp (I.hok.fresh hp)) (I.hok.laid k hp new)
theorem Inv.write(I:Inv X pins U H s)(mu:PV (H x))(he:e=x\/H e=some (.own x))(k:∀b u,b≠e->s.heap.get? b=some u->h'.get? b=some u)(heo:∃u,h'.get? e=some u)
  (new:ObjOk X.prog X.w (upd H x o) h' x o):Inv X pins U (upd H x o) {s with heap:=h',toks:=t'}:=I.un (Un.write mu he k heo) (I.hok.write mu he k heo new)
def Inv.pins_of(I:Inv X pins U H s)(h:∀p∈pins',s.heap.get? p.1=some p.2/\H p.1=none/\p.1≠X.env.locals/\p.1∉X.fs/\∀v,p.2.data≠.cell v):Inv X pins' U H s:=
 ⟨I.ok,I.os,I.bare,I.base,I.loc,I.cell,I.free,I.freeC,λp hp=>(List.mem_append.mp hp).elim (λz=>I.pin p (jW _ z)) (h p),I.hok,I.len⟩
def Lz{N:List Str}(hN:N.Nodup){i j:Nat}{x:Str}(a:N[i]?=some x)(b:N[j]?=some x):i=j:=by
 obtain⟨h1,e1⟩:=List.getElem?_eq_some_iff.mp a;obtain⟨h2,e2⟩:=List.getElem?_eq_some_iff.mp b;exact(List.getElem_inj hN).mp (e1.trans e2.symm)
def Hl(I:Inv X pins U H s)(hN:X.N.Nodup)(hi:X.N[i]?=some x)(hx:GB X.env.scope x)(r:RelV v u)
  (h:∀s',Inv X pins (U.set i (some v)) H s'->(∃a,cJ a s.heap s'.heap/\(a=X.env.locals\/X.env.cells.lookup x=some a))->Q () s')(hf:X.fn x=true\/X.env.scope.names.lookup x=some .local:=by first|exact .inl rfl|exact .inr rfl|assumption):aQ M A (storeName X.env x u) Q E s:=by
 obtain⟨m,hn,hl⟩:=id I.loc;have hcls:(X.env.scope.kind==.class||(X.env.scope.kind==.module && X.env.locals !=X.env.globals))=false:=by rw[I.ok.kind];rfl
 have hiσ:i<U.length:=by rw[I.len];exact(List.getElem?_eq_some_iff.mp hi).1
 have cne:=I.cne;have tracked:∀{a:Addr}{h':Heap},(∃o,s.heap.get? a=some o/\H a=none)->cJ a s.heap h'->HOk X.prog X.w H h':=λ{a h'} ha hs b ob e=>by
  obtain⟨_,_,hfree⟩:=ha;refine(I.hok b ob e).stay (λc w' hc q=>(hs.2 c ?_).trans q) (λ_ q=>q) λ_ _ q=>q
  rintro rfl
  rcases hc with rfl|hc
  ·rw[hfree]at e;cases e
  ·rw[hfree]at hc;cases hc
 rcases hx with hk|hk
 ·refine wpAny_storeName_local hk hn (λh' hn' hs=>?_) hcls;obtain⟨oL,_,_,hoL,_⟩:=id hn;refine h _ ⟨I.ok,I.os,I.bare,⟨λb o e n hb hx=>?_,λb o e n hb hx=>?_,I.base.free,λb o e hx=>?_,I.base.tups,I.base.frzs,I.base.tbls⟩,⟨_,hn',λj y v' e1 e2 e3=>?_⟩,λy c e=>?_,I.free,I.freeC,λp hp=>?_,tracked ⟨oL,hoL,I.free⟩ hs,by simpa using I.len⟩ ⟨_,hs,.inl rfl⟩
  ·exact(hs.2 b (bH (bS (aP e) I.ok.above))).trans (I.base.keep b o e n hb hx)
  ·obtain⟨sl,e1⟩:=I.base.slot b o e n hb hx;exact⟨sl,(hs.2 b (bH (bS (aP e) I.ok.above))).trans e1⟩
  ·obtain⟨o',e1⟩:=I.base.there b o e hx;exact⟨o',(hs.2 b (bH (bS (aP e) I.ok.above))).trans e1⟩
  ·by_cases hj:j=i
   ·subst hj;rw[hi]at e1;cases e1;rw[aS hiσ]at e2;cases e2;exact⟨u,r,.inl ⟨hk,by simp⟩⟩
   ·rw[aV (dX hj)]at e2;obtain⟨u',r',q⟩:=hl j y v' e1 e2 e3;refine⟨u',r',?_⟩;rcases q with ⟨k,e⟩|⟨k,c,e,z⟩
    ·refine .inl ⟨k,?_⟩;have:y≠x:=λe=>hj (Lz hN e1 (e▸hi));simp[this,e]
    ·exact .inr ⟨k,c,e,z.sameBut hs (cne y c e)⟩
  ·obtain⟨w',z⟩:=I.cell y c e;exact⟨w',z.sameBut hs (cne y c e)⟩
  ·obtain⟨e,n,ne,nf,d⟩:=I.pin p hp;exact⟨(hs.2 p.1 ne).trans e,n,ne,nf,d⟩
 ·have hfn:X.fn x=true:=by
   rcases hf with z|z
   ·exact z
   ·rw[z]at hk;cases hk
  obtain⟨c,hc⟩:=I.ok.has x (.inl hk);obtain⟨w',z⟩:=I.cell x c hc;refine wpAny_storeName_cell I.ok.kind hk hc z (λh' hc' hs=>?_);obtain⟨oc,hoc,hocd⟩:=id z;have hfr:H c=none:=(I.freeC x c hc).elim (λz=>z) λz=>by rw[hfn]at z;exact absurd z.1 (by decide)
  refine h {s with heap:=h'} ⟨I.ok,I.os,I.bare,⟨λb o e n hb hx=>?_,λb o e n hb hx=>?_,I.base.free,λb o e hx=>?_,I.base.tups,I.base.frzs,I.base.tbls⟩,⟨m,hn.sameBut hs (dX (cne x c hc)),λj y v' e1 e2 e3=>?_⟩,λy c' e=>?_,I.free,I.freeC,λp hp=>?_,tracked ⟨oc,hoc,hfr⟩ hs,by simpa using I.len⟩ ⟨c,hs,.inr hc⟩
  ·exact(hs.2 b (bH (bS (aP e) (I.ok.cab x c hfn hc)))).trans (I.base.keep b o e n hb hx)
  ·obtain⟨sl,e1⟩:=I.base.slot b o e n hb hx;exact⟨sl,(hs.2 b (bH (bS (aP e) (I.ok.cab x c hfn hc)))).trans e1⟩
  ·obtain⟨o',e1⟩:=I.base.there b o e hx;exact⟨o',(hs.2 b (bH (bS (aP e) (I.ok.cab x c hfn hc)))).trans e1⟩
  ·by_cases hj:j=i
   ·subst hj;rw[hi]at e1;cases e1;rw[aS hiσ]at e2;cases e2;exact⟨u,r,.inr ⟨.inl hk,c,hc,hc'⟩⟩
   ·rw[aV (dX hj)]at e2;obtain⟨u',r',q⟩:=hl j y v' e1 e2 e3;refine⟨u',r',?_⟩;rcases q with q|⟨k,c',e,z'⟩
    ·exact .inl q
    ·refine .inr ⟨k,c',e,z'.sameBut hs ?_⟩
     rintro rfl
     exact hj (Lz hN e1 (I.ok.inj _ _ _ e hc▸hi))
  ·by_cases hcc:c'=c
   ·subst hcc;exact⟨_,hc'⟩
   ·obtain⟨w2,z2⟩:=I.cell y c' e;exact⟨w2,z2.sameBut hs hcc⟩
  ·obtain⟨e,n,ne,nf,d⟩:=I.pin p hp;refine⟨(hs.2 p.1 ?_).trans e,n,ne,nf,d⟩;intro q;rw[q,hoc]at e;have q':oc=p.2:=bM e;exact d w' (by rw[<-q'];exact hocd)
def Ms(I:Inv X pins U H s)(hN:X.N.Nodup)(hi:X.N[i]?=some x)(hx:GB X.env.scope x)(r:RelV v u)
  (h:∀s',Inv X pins (U.set i (some v)) H s'->Q () s')(hf:X.fn x=true\/X.env.scope.names.lookup x=some .local:=by first|exact .inl rfl|exact .inr rfl|assumption):aQ M A (storeName X.env x u) Q E s:=
 Hl I hN hi hx r (λs' I' _=>h s' I') hf
def Inv.call'{s':aN}(I:Inv X pins U H s)(ho:s'.os=s.os)(u:Un (Ft X.stack) ch H H' s.heap s'.heap)(hok:HOk X.prog X.w H' s'.heap)(hg:mS s'.gens)
  (hch:∀b∈ch,(b∈X.ex\/X.s₀.heap.objs.size<=b)/\b≠X.env.locals/\(∀x c,X.env.cells.lookup x=some c->c≠b)/\∀p∈X.pn++pins,p.1≠b):Inv X pins U H' s':=by
 obtain⟨h',g',d',t',o'⟩:=s';have e:o'=s.os:=ho;subst e;exact I.call (g':=g') (t':=t') (d':=d') u hok hg hch
end
abbrev XK:=aH->Option Addr->Hp->Prop
abbrev St:=List (Option V)
abbrev VK:=V->Hp->Prop
abbrev TE:=St->Hp->VK->Prop
abbrev TT:=St->Hp->(Bool->Hp->Prop)->Prop
abbrev TA:=St->Hp->(List V->Hp->Prop)->Prop
structure Ends where
 nx:St->Hp->Prop
 rt:VK
 bk:St->Hp->Prop:=λ_ _=>False
 ct:St->Hp->Prop:=λ_ _=>False
abbrev TS:=Ends->St->Hp->Prop
def EP(X:Cx)(pins:List (Addr×Obj))(U:St)(Q:VK)(u:aH)(s':aN):Prop:=∃v H',Inv X pins U H' s'/\RelV v u/\Q v H'
def TP(X:Cx)(pins:List (Addr×Obj))(U:St)(Q:Bool->Hp->Prop)(b:Bool)(s':aN):Prop:=∃H',Inv X pins U H' s'/\Q b H'
def AP(X:Cx)(pins:List (Addr×Obj))(U:St)(Q:List V->Hp->Prop)(us:List aH)(s':aN):Prop:=∃vs H',Inv X pins U H' s'/\Vals vs us/\Q vs H'
def SP(X:Cx)(pins:List (Addr×Obj))(D:Ends)(f:Flow)(s':aN):Prop:=
 match f with
 |.next=>∃σ' H',Inv X pins σ' H' s'/\D.nx σ' H'
 |.brk=>∃σ' H',Inv X pins σ' H' s'/\D.bk σ' H'
 |.cont=>∃σ' H',Inv X pins σ' H' s'/\D.ct σ' H'
 |.ret u=>∃v σ' H',Inv X pins σ' H' s'/\RelV v u/\D.rt v H'
def PE(X:Cx)(e:Expr)(t:TE):Prop:=
 ∀(pins:List (Addr×Obj))(s:aN)(U:St)(H:Hp)(Q:VK),Inv X pins U H s->t U H Q->aQ (bI X.prog X.w) X.A (eval e X.env) (EP X pins U Q) X.xe s
def PT(X:Cx)(e:Expr)(t:TT):Prop:=
 ∀(pins:List (Addr×Obj))(s:aN)(U:St)(H:Hp)(Q:Bool->Hp->Prop),Inv X pins U H s->t U H Q->aQ (bI X.prog X.w) X.A (isTrue e X.env (eval e X.env)) (TP X pins U Q) X.xe s
def PW(X:Cx)(e:Expr)(t:TT):Prop:=
 ∀(whole:Sem aH)(pins:List (Addr×Obj))(s:aN)(U:St)(H:Hp)(Q:Bool->Hp->Prop),Inv X pins U H s->t U H Q->aQ (bI X.prog X.w) X.A (isTrue e X.env whole) (TP X pins U Q) X.xe s
def PW.pt(h:PW X e t):PT X e t:=h _
def PA(X:Cx)(es:List Expr)(t:TA):Prop:=
 ∀(pos:Pos)(pins:List (Addr×Obj))(s:aN)(U:St)(H:Hp)(Q:List V->Hp->Prop),Inv X pins U H s->t U H Q->aQ (bI X.prog X.w) X.A (spliced (fG pos (bF es X.env))) (AP X pins U Q) X.xe s
def PS(X:Cx)(st:Stmt)(t:TS):Prop:=
 ∀(pins:List (Addr×Obj))(s:aN)(U:St)(H:Hp)(D:Ends),Inv X pins U H s->t D U H->aQ (bI X.prog X.w) X.A (exec st X.env) (SP X pins D) X.xe s
def PSs(X:Cx)(st:List Stmt)(t:TS):Prop:=
 ∀(pins:List (Addr×Obj))(s:aN)(U:St)(H:Hp)(D:Ends),Inv X pins U H s->t D U H->aQ (bI X.prog X.w) X.A (execs st X.env) (SP X pins D) X.xe s
def jh(h:aQ M A t Q E s)(hQ:∀a s,Q a s->Q' a s):aQ M A t Q' E s:=cK h hQ λ_ _ x=>x
end L2
namespace L2
open PySem PySem.Spec PyProof.Rows
section
variable{X:Cx}
def Fy(i:Nat):TE:=λU H Q=>∃v,U[i]?=some (some v)/\Q v H
def tC(v:V):TE:=λ_ H Q=>Q v H
def LO(hN:X.N[i]?=some x)(hv:PP X.env.scope x)(hd:(x==("__debug__":Str))=false:=by decide)(hcd:(x==("__classdict__":Str))=false:=by decide):PE X (.Name x pos) (Fy i):=by
 intro pins s U H Q I h;obtain⟨v,e,h⟩:=h;obtain⟨m,hn,hl⟩:=I.loc;obtain⟨u,r,l⟩:=hl i x v hN e hv;have fin:EP X pins U Q u s:=⟨v,H,I,r,h⟩;rcases l with ⟨hk,hm⟩|⟨hk,c,hc,hcell⟩
 ·exact wpAny_Name (wpAny_loadName_local I.ok.kind hk hn hm fin) hd
 ·rcases hk with hk|hk
  ·exact wpAny_Name (wpAny_loadName_cell I.ok.kind hk hc hcell fin) hd
  ·exact wpAny_Name (wpAny_loadName_free I.ok.kind hk hc hcell fin hcd) hd
def X4{i j pos}:PE X (.Constant (.int i) j pos) (tC (.int i)):=λ_ _ _ H _ I h=>wpAny_Constant_int ⟨.int i,H,I.tok _,⟨_,rfl⟩,h⟩
def RX{b j pos}:PE X (.Constant (.bool b) j pos) (tC (.bl b)):=λ_ _ _ H _ I h=>Constant_bool ⟨.bl b,H,I,rfl,h⟩
def LU{j pos}:PE X (.Constant .none j pos) (tC .non):=λ_ _ _ H _ I h=>Constant_none ⟨.non,H,I,rfl,h⟩
def LQ{x j pos}:PE X (.Constant (.str x) j pos) (tC (.str x)):=λ_ _ _ H _ I h=>Calls.Constant_str ⟨.str x,H,I.tok _,⟨_,rfl⟩,h⟩
def Gl(X:Cx)(x:Str):Prop:=X.env.kindOf x=some .globalImplicit
def Cb(I:Inv X pins U H s)(hg:Gl X x)(hm:X.mg x=some u)(h:Q u s)
  (hd:(x==("__debug__":Str))=false:=by decide):aQ (bI X.prog X.w) X.A (eval (.Name x pos) X.env) Q E s:=
 Calls.Name_function_global I.ok.kind hg (Calls.loadGlobal_global (by rw[I.ok.glob];exact I.mod.glob.keeps I.bk) hm h) hd
def xg(I:Inv X pins U H s)(hg:Gl X x)(hm:X.mg x=none)(hv:gE x=some u)(h:Q u s)
  (hn:x≠"__name__":=by decide)(hd:(x==("__debug__":Str))=false:=by decide):aQ (bI X.prog X.w) X.A (eval (.Name x pos) X.env) Q E s:=by
 obtain⟨mb,h1,h2⟩:=I.mod.blt;exact Calls.Name_function_global I.ok.kind hg (Calls.loadGlobal_builtin (by rw[I.ok.glob];exact I.mod.glob.keeps I.bk) hm (by rw[I.ok.blt];exact h1.keeps I.bk) ((h2 x hn).trans hv) h) hd
def Rf(hg:Gl X x)(hm:X.mg x=some u)(r:RelV v u)(hd:(x==("__debug__":Str))=false:=by decide):PE X (.Name x pos) (tC v):=
 λ_ _ _ H _ I h=>Cb I hg hm ⟨v,H,I,r,h⟩ hd
def DK(hg:Gl X x)(hm:X.mg x=none)(hv:gE x=some u)(r:RelV v u)(hn:x≠"__name__":=by decide)(hd:(x==("__debug__":Str))=false:=by decide):PE X (.Name x pos) (tC v):=
 λ_ _ _ H _ I h=>xg I hg hm hv ⟨v,H,I,r,h⟩ hn hd
variable{a b:Expr}{ta tb:TE}{pos:Pos}
variable{tA tB':TT}{rest:List Expr}
def XI(t u:TT):TT:=λU H Q=>t U H λc H1=>if c=true then u U H1 Q else Q false H1
def ZJ(t u:TT):TT:=λU H Q=>t U H λc H1=>if c=true then Q true H1 else u U H1 Q
def XE(t:TT):TT:=λU H Q=>t U H λc H1=>Q (!c) H1
def FZ(ha:PT X a tA):PW X (.BoolOp .And [a] pos) tA:=by
 intro wh pins s U H Q I h;refine isTrue_and (jh (ha pins s U H Q I h) λc s1 e=>?_);cases c with
 |true=>exact isTrue_and_nil e
 |false=>exact e
def MI(ha:PT X a tA):PW X (.BoolOp .Or [a] pos) tA:=by
 intro wh pins s U H Q I h;refine isTrue_or (jh (ha pins s U H Q I h) λc s1 e=>?_);cases c with
 |false=>exact isTrue_or_nil e
 |true=>exact e
def MK(ha:PT X a tA)(hb:PW X (.BoolOp .And (b::rest) pos) tB'):PW X (.BoolOp .And (a::b::rest) pos) (XI tA tB'):=by
 intro wh pins s U H Q I h;refine isTrue_and (jh (ha pins s U H _ I h) λc s1 ⟨H1,I1,q1⟩=>?_);cases c with
 |true=>exact hb wh pins s1 U H1 Q I1 q1
 |false=>exact⟨H1,I1,q1⟩
def RK(ha:PT X a tA)(hb:PW X (.BoolOp .Or (b::rest) pos) tB'):PW X (.BoolOp .Or (a::b::rest) pos) (ZJ tA tB'):=by
 intro wh pins s U H Q I h;refine isTrue_or (jh (ha pins s U H _ I h) λc s1 ⟨H1,I1,q1⟩=>?_);cases c with
 |true=>exact⟨H1,I1,q1⟩
 |false=>exact hb wh pins s1 U H1 Q I1 q1
def LC(ha:PT X a tA):PT X (.UnaryOp .Not a pos) (XE tA):=by
 intro pins s U H Q I h;exact isTrue_not (ha pins s U H (λc H1=>Q (!c) H1) I h)
def SO(ta tb:TE):TE:=λU H Q=>ta U H λx H1=>∃c,x=.bl c/\if c=true then tb U H1 Q else Q (.bl false) H1
def XD(ta tb:TE):TE:=λU H Q=>ta U H λx H1=>∃c,x=.bl c/\if c=true then Q (.bl true) H1 else tb U H1 Q
def SM(ta:TE):TE:=λU H Q=>ta U H λx H1=>∃c,x=.bl c/\Q (.bl (!c)) H1
def LR{op}(h:PE X a t):PE X (.BoolOp op [a] pos) t:=λpins s U H Q I hw=>BoolOp_one (h pins s U H Q I hw)
def LW(ha:PE X a ta)(hb:PE X (.BoolOp .And (b::rest) pos) tb):PE X (.BoolOp .And (a::b::rest) pos) (SO ta tb):=by
 intro pins s U H Q I h;refine BoolOp_and (jh (ha pins s U H _ I h) λv s1 ⟨x,H1,I1,r1,q1⟩=>?_);obtain⟨c,rfl,q1⟩:=q1;cases r1;refine dW ?_;cases c with
 |true=>exact hb pins s1 U H1 Q I1 q1
 |false=>exact⟨.bl false,H1,I1,rfl,q1⟩
def RU(ha:PE X a ta)(hb:PE X (.BoolOp .Or (b::rest) pos) tb):PE X (.BoolOp .Or (a::b::rest) pos) (XD ta tb):=by
 intro pins s U H Q I h;refine BoolOp_or (jh (ha pins s U H _ I h) λv s1 ⟨x,H1,I1,r1,q1⟩=>?_);obtain⟨c,rfl,q1⟩:=q1;cases r1;refine dW ?_;cases c with
 |false=>exact hb pins s1 U H1 Q I1 q1
 |true=>exact⟨.bl true,H1,I1,rfl,q1⟩
def LS(ha:PE X a ta):PE X (.UnaryOp .Not a pos) (SM ta):=by
 intro pins s U H Q I h;refine UnaryOp_ (jh (ha pins s U H _ I h) λv s1 ⟨x,H1,I1,r1,q1⟩=>?_);obtain⟨c,rfl,q1⟩:=q1;cases r1;exact not_of (dW ⟨.bl (!c),H1,I1,rfl,q1⟩)
def ZL(t:TT)(ta tb:TE):TE:=λU H Q=>t U H λc H1=>if c=true then ta U H1 Q else tb U H1 Q
def L9(hc:PT X c tA)(ha:PE X a ta)(hb:PE X b tb):PE X (.IfExp c a b pos) (ZL tA ta tb):=by
 intro pins s U H Q I h;refine wpAny_IfExp (jh (hc pins s U H _ I h) λd s1 ⟨H1,I1,q1⟩=>?_);cases d with
 |true=>exact ha pins s1 U H1 Q I1 q1
 |false=>exact hb pins s1 U H1 Q I1 q1
end
end L2
namespace L2
open PySem PySem.Spec PyProof.Rows
def SqL(K:bA)(H:Hp)(a:Addr)(xs:List V):Prop:=
 Rd H a (.lst xs)\/
  ∃(o:Obj) (its:Array aH) (n:Nat),K.lookup a=some o/\o.cls=.type "list"/\o.dict=none/\o.data=.seq its n/\its.size<=aM/\Vals xs its.toList
def SqT(K:bA)(H:Hp)(a:Addr)(xs:List V):Prop:=
 Rd H a (.tup xs)\/
  ∃(o:Obj) (its:Array aH) (n:Nat),K.lookup a=some o/\o.cls=.type "tuple"/\o.data=.seq its n/\its.size<=aM/\Vals xs its.toList
noncomputable def WN:aH->Option V
 |.none=>some .non
 |.bool b=>some (.bl b)
 |.int i _=>some (.int i)
 |.str x _=>some (.str x)
 |.bytes b _=>some (.byt b)
 |.float b _=>some (.flt b)
 |.ref a=>some (.ref a)
 |.type n=>some (.ty n)
 |_=>none
def RelV.abs(r:RelV x u):WN u=some x:=by
 cases x with
 |non=>cases r;rfl
 |bl _=>cases r;rfl
 |int _=>obtain⟨t,rfl⟩:=r;rfl
 |str _=>obtain⟨t,rfl⟩:=r;rfl
 |byt _=>obtain⟨t,rfl⟩:=r;rfl
 |flt _=>obtain⟨t,rfl⟩:=r;rfl
 |ref _=>cases r;rfl
 |ty _=>cases r;rfl
def RelV.inj(r:RelV x u)(q:RelV y u):x=y:=bM (r.abs.symm.trans q.abs)
theorem Vals.inj:∀{xs ys:List V}{us:List aH},Vals xs us->Vals ys us->xs=ys
 |_,_,_,.nil,.nil=>rfl
 |_,_,_,.cons r t,.cons r' t'=>by rw[r.inj r',Vals.inj t t']
section
variable{X:Cx}{pins:List (Addr×Obj)}{U:St}{H:Hp}{s:aN}{a:Addr}{xs ys:List V}
def SqL.of{K:bA}(h:H a=some (.lst xs)):SqL K H a xs:=.inl (.inl h)
def SqT.of{K:bA}(h:H a=some (.tup xs)):SqT K H a xs:=.inl (.inl h)
def Inv.list(I:Inv X pins U H s)(h:SqL X.K H a xs):∃its:List aH,Vals xs its/\PlainL s.heap a its.toArray/\xs.length<=aM:=by
 rcases h with h|⟨o,its,n,hk,hc,hd,hs,hz,r⟩
 ·obtain⟨z,its,n,r,e⟩:=h.ok I.hok;exact⟨its,r,⟨_,n,e,rfl,rfl,rfl⟩,z⟩
 ·refine⟨its.toList,r,⟨o,n,I.kIn a o hk,hc,hd,by simpa using hs⟩,?_⟩;have e:=r.length;simp only[bB]at e
  lia
def Inv.tuple(I:Inv X pins U H s)(h:SqT X.K H a xs):∃its:List aH,Vals xs its/\jN s.heap a its.toArray/\xs.length<=aM:=by
 rcases h with h|⟨o,its,n,hk,hc,hs,hz,r⟩
 ·obtain⟨z,its,r,p⟩:=h.ok I.hok;exact⟨its,r,p,z⟩
 ·refine⟨its.toList,r,⟨o,I.kIn a o hk,hc,n,by simpa using hs⟩,?_⟩;have e:=r.length;simp only[bB]at e
  lia
def Inv.list_inj(I:Inv X pins U H s)(h:SqL X.K H a xs)(h':SqL X.K H a ys):xs=ys:=by
 obtain⟨its,r,⟨o,n,e,_,_,d⟩,_⟩:=I.list h;obtain⟨its',r',⟨o',n',e',_,_,d'⟩,_⟩:=I.list h';rw[e]at e';cases e';rw[d]at d';injection d' with d1 _
 have:its=its':=by simpa using congrArg Array.toList d1
 subst this;exact r.inj r'
def Inv.tuple_inj(I:Inv X pins U H s)(h:SqT X.K H a xs)(h':SqT X.K H a ys):xs=ys:=by
 obtain⟨its,r,⟨o,e,_,n,d⟩,_⟩:=I.tuple h;obtain⟨its',r',⟨o',e',_,n',d'⟩,_⟩:=I.tuple h';rw[e]at e';cases e';rw[d]at d';injection d' with d1 _
 have:its=its':=by simpa using congrArg Array.toList d1
 subst this;exact r.inj r'
end
section
variable{X:Cx}{st:Stmt}{rest:List Stmt}{t u:TS}{e:Expr}{te:TE}{pos:Pos}
def IM:TS:=λD U H=>D.nx U H
def SI(t u:TS):TS:=λD U H=>t {D with nx:=u D} U H
def ES:PSs X [] IM:=λ_ _ U H _ I h=>oV ⟨U,H,I,h⟩
def Yh(h1:PS X st t)(h2:PSs X rest u):PSs X (st::rest) (SI t u):=by
 intro pins s U H D I h;refine wpAny_execs_cons (jh (h1 pins s U H {D with nx:=u D} I h) λf s1 q=>?_);cases f with
 |next=>
  obtain⟨σ',H',I',q⟩:=q;exact h2 pins s1 σ' H' D I' q
 |ret v=>exact q
 |brk=>exact q
 |cont=>exact q
def ER(h1:PS X st t):PSs X [st] t:=by
 intro pins s U H D I h;refine wpAny_execs_cons (jh (h1 pins s U H D I h) λf s1 q=>?_);cases f with
 |next=>exact oV q
 |ret v=>exact q
 |brk=>exact q
 |cont=>exact q
def Inv.quiet(I:Inv X pins U H s):interactive X.env=false:=by simp[interactive,I.ok.kind]
def LH{x j pos pos'}:PS X (.Expr (.Constant (.str x) j pos) pos') IM:=λ_ s U H _ I h=>wpAny_Expr (Calls.Constant_str (show SP X _ _ .next {s with toks:=s.toks+1}from⟨U,H,I.tok _,h⟩)) I.quiet
def SN(te:TE):TS:=λD U H=>te U H λ_ H1=>D.nx U H1
def Ck(he:PE X e te)(hs:gO e none pos.line X.env=pure false:=by rfl):PS X (.Expr e pos) (SN te):=by
 intro pins s U H D I h;exact wpAny_Expr_any (jh (he pins s U H _ I h) λv s1 ⟨x,H1,I1,r1,q1⟩=>⟨U,H1,I1,q1⟩) I.quiet hs
def XC(te:TE):TS:=λD U H=>te U H D.rt
def LF(he:PE X e te):PS X (.Return (some e) pos) (XC te):=by
 intro pins s U H D I h;exact wpAny_Return_some (jh (he pins s U H _ I h) λv s1 ⟨x,H1,I1,r1,q1⟩=>⟨x,U,H1,I1,r1,q1⟩)
def SJ:TS:=λD _ H=>D.rt .non H
def ET:PS X (.Return none pos) SJ:=λ_ _ U H _ I h=>wpAny_Return_none ⟨.non,U,H,I,rfl,h⟩
def XG(c:TT)(t u:TS):TS:=λD U H=>c U H λb H1=>if b=true then t D U H1 else u D U H1
def IY(hc:PT X c tc)(ha:PSs X a t)(hb:PSs X b u):PS X (.If c a b pos) (XG tc t u):=by
 intro pins s U H D I h;refine wpAny_If (jh (hc pins s U H _ I h) λd s1 ⟨H1,I1,q1⟩=>?_);cases d with
 |true=>exact ha pins s1 U H1 D I1 q1
 |false=>exact hb pins s1 U H1 D I1 q1
end
abbrev TG:=V->St->Hp->(St->Hp->Prop)->Prop
abbrev OT:=List V->St->Hp->(St->Hp->Prop)->Prop
def PG(X:Cx)(target:Expr)(t:TG):Prop:=
 ∀(pins:List (Addr×Obj))(s:aN)(U:St)(H:Hp)(v:V)(u:aH)(Q:St->Hp->Prop),Inv X pins U H s->RelV v u->t v U H Q->
  aQ (bI X.prog X.w) X.A (assign target X.env u) (λ_ s'=>∃σ' H',Inv X pins σ' H' s'/\Q σ' H') X.xe s
def PU(X:Cx)(ts:List Expr)(t:OT):Prop:=
 ∀(pins:List (Addr×Obj))(s:aN)(U:St)(H:Hp)(vs:List V)(us:List aH)(Q:St->Hp->Prop),Inv X pins U H s->Vals vs us->t vs U H Q->
  aQ (bI X.prog X.w) X.A (assignInOrder ((jX ts X.env).map (·.2)) us) (λ_ s'=>∃σ' H',Inv X pins σ' H' s'/\Q σ' H') X.xe s
section
variable{X:Cx}{pos:Pos}
def ti(i:Nat):TG:=λv U H Q=>Q (U.set i (some v)) H
def Cj(hN:X.N.Nodup)(hi:X.N[i]?=some x)(hx:GB X.env.scope x)(hf:X.fn x=true\/X.env.scope.names.lookup x=some .local:=by first|exact .inl rfl|exact .inr rfl|assumption):PG X (.Name x pos) (ti i):=by
 intro pins s U H v u Q I r h;exact wpAny_assign_Name (Ms I hN hi hx r (λs' I'=>⟨_,H,I',h⟩) hf)
noncomputable def ah:OT:=λvs U H Q=>vs=[]/\Q U H
noncomputable def aa(t:TG)(u:OT):OT:=λvs U H Q=>∃v r,vs=v::r/\t v U H λσ' H'=>u r σ' H' Q
def Rh:PU X [] ah:=by
 intro pins s U H vs us Q I r h;obtain⟨e,h⟩:=h;subst e;cases r;exact assignInOrder_nil ⟨U,H,I,h⟩
def Eb(h1:PG X e t)(h2:PU X es u)
  (hs:(jX (e::es) X.env).map (·.2)=assign e X.env::(jX es X.env).map (·.2):=by rfl):PU X (e::es) (aa t u):=by
 intro pins s U H vs us Q I r h;obtain⟨v,vr,e1,h⟩:=h;subst e1;cases r with
 |cons r rr=>
  rw[hs];refine assignInOrder_cons (jh (h1 pins s U H _ _ _ I r h) λ_ s1 ⟨σ1,H1,I1,q1⟩=>?_);exact h2 pins s1 σ1 H1 _ _ Q I1 rr q1
noncomputable def iu(K:bA)(n:Nat)(t:OT):TG:=λv U H Q=>∃a xs,v=.ref a/\SqT K H a xs/\xs.length=n/\t xs U H Q
def X6(hc:X.calm=true)(h:PU X es t)
  (hn:(jX es X.env).length=n:=by rfl)(hst:(jX es X.env).findIdx? (·.1)=none:=by rfl):PG X (.Tuple es k pos) (iu X.K n t):=by
 intro pins s U H v u Q I r hw;obtain⟨a,xs,e1,hq,hl,hw⟩:=hw;subst e1;cases r;obtain⟨its,rv,ht,hz⟩:=I.tuple hq;refine assign_Tuple_tuple (I.ok.hd hc) ht (by simp[hn,<-hl,rv.length]) hst λh' hx=>?_;have I1:Inv X pins U H {s with heap:=h'}:=I.kept (t':=s.toks) λb o e=>hx b o (bH (aP e)) e;exact h pins _ U H xs _ Q I1 (by simpa using rv) hw
def Mu(te:TE)(g:TG):TS:=λD U H=>te U H λx H1=>g x U H1 D.nx
def LD(hN:X.N.Nodup)(hi:X.N[i]?=some x)(hx:GB X.env.scope x)(he:PE X e te)(hs:gO e (some (.Name x pos')) pos.line X.env=pure false:=by rfl)(hf:X.fn x=true\/X.env.scope.names.lookup x=some .local:=by first|exact .inl rfl|exact .inr rfl|assumption):
  PS X (.Assign [.Name x pos'] e pos) (Mu te (ti i)):=by
 intro pins s U H D I h;refine wpAny_Assign_Name (jh (he pins s U H _ I h) λv s1 ⟨y,H1,I1,r1,q1⟩=>?_) hs;exact Ms I1 hN hi hx r1 (λs2 I2=>⟨_,H1,I2,q1⟩) hf
end
structure It where
 go:Nat->Hp->Prop
 yld:Nat->Hp->V->Hp->Prop
 stop:Nat->Hp->Prop
def Bu(X:Cx)(pins:List (Addr×Obj))(H:Hp)(b:Addr):Prop:=
 H b=none/\b≠X.env.locals/\b∉X.fs/\(b∈X.ex\/X.s₀.heap.objs.size<=b)/\(∀x c,X.env.cells.lookup x=some c->c≠b)/\∀p∈X.pn++pins,p.1≠b
def Inv.fpOk{s:aN}(I:Inv X pins U H s)(hb:s.heap.objs.size<=b)(hn:H' b=none):Bu X pins H' b:=by
 refine⟨hn,eK (bS I.lt hb),I.nofs hb,.inr (cM I.sz hb),λx c e z=>?_,λp hp z=>?_⟩
 ·obtain⟨v,q⟩:=I.cell x c e;exact absurd (bS q.lt (by rw[z];exact hb)) (cO _)
 ·exact absurd (bS (aP (I.pin p hp).1) (by rw[z];exact hb)) (cO _)
structure Turn(P:bQ)(w:cF)(K:bA)(tg:Expr)(J:It)(fp:List Addr)(it:Addr)(tn:Nat->Heap->Prop):Prop where
 mem:it∈fp
 obj:∀i h,tn i h->∀b∈fp,∃o,h.get? b=some o/\∀v,o.data≠.cell v
 keep:∀i h h',tn i h->(∀b∈fp,∀o,h.get? b=some o->h'.get? b=some o)->tn i h'
 item:∀(X:Cx),X.prog=P->X.w=w->X.K=K->X.calm=true->∀(i:Nat)(pins:List (Addr×Obj))(s:aN)(U:St)(H:Hp)(E:aH->aN->Prop),Inv X pins U H s->(∀b∈fp,Bu X pins H b)->tn i s.heap->J.go i H->
  aQ (bI P w) X.A (fH (.ref it)) (λr s1=>∃u,r=some u/\
   aQ (bI P w) X.A (mL tg (.ref it) u) (λ_ s2=>∃x H',Inv X pins U H' s2/\RelV x u/\J.yld i H x H'/\tn (i+1) s2.heap/\∀b∈fp,H' b=none) E s1) E s
 done:∀(X:Cx),X.prog=P->X.w=w->X.K=K->X.calm=true->∀(i:Nat)(pins:List (Addr×Obj))(s:aN)(U:St)(H:Hp)(E:aH->aN->Prop),Inv X pins U H s->(∀b∈fp,Bu X pins H b)->tn i s.heap->J.stop i H->
  aQ (bI P w) X.A (fH (.ref it)) (λr s1=>r=none/\Inv X pins U H s1) E s
 self:∀(A:cS)(i:Nat)(s:aN)(Q:aH->aN->Prop)(E:aH->aN->Prop),tn i s.heap->Q (.ref it) s->aQ (bI P w) A (pyIter (.ref it)) Q E s
abbrev TI:=St->Hp->(It->Hp->Prop)->Prop
def YQ(X:Cx)(pins:List (Addr×Obj))(U:St)(tg:Expr)(R:It->Hp->Prop)(itv:aH)(s2:aN):Prop:=
 ∃(it:Addr) (fp:List Addr) (tn:Nat->Heap->Prop) (J:It) (H':Hp),itv=.ref it/\Inv X pins U H' s2/\Turn X.prog X.w X.K tg J fp it tn/\tn 0 s2.heap/\(∀b∈fp,Bu X pins H' b)/\R J H'
def PI(X:Cx)(tg iter:Expr)(wi:TI):Prop:=
 ∀(pins:List (Addr×Obj))(s:aN)(U:St)(H:Hp)(R:It->Hp->Prop),Inv X pins U H s->wi U H R->
  aQ (bI X.prog X.w) X.A (eval iter X.env) (λv s1=>aQ (bI X.prog X.w) X.A (pyIter v) (YQ X pins U tg R) X.xe s1) X.xe s
def K5{s:aN}{o:Obj}(ho:s.heap.get? it=some o)(hc:o.cls=.type n)(hd:o.data=.fields vs)
  (hn:["enumerate","zip","dict_itemiterator","dict_reverseitemiterator","odict_iterator","itertools.zip_longest","itertools.pairwise"].contains n=false)(hQ:Q () s):aQ M A (mL tg (.ref it) u) Q E s:=by
 unfold mL;cases tg<;>first
  |exact aB hQ
  | (cases u <;> first
    |exact aB hQ
    | (refine aA (wpAny_load ho ?_)
       rw[hc,hd];show aQ M A (if(["enumerate","zip","dict_itemiterator","dict_reverseitemiterator","odict_iterator","itertools.zip_longest","itertools.pairwise"].contains n && vs[0]?==some (cE _))=true then _ else _) Q E s;rw[aK (by intro h;rw[hn,Bool.false_and]at h;cases h)];exact aB hQ))
def WV(K:bA)(a:Addr):It:=
 ⟨λi H=>∃xs x,SqL K H a xs/\xs[i]?=some x,λi H x H'=>H'=H/\∀xs,SqL K H a xs->xs[i]?=some x,λi H=>∃xs,SqL K H a xs/\xs.length<=i⟩
def WU(K:bA)(a:Addr):It:=
 ⟨λi H=>∃xs x,SqT K H a xs/\xs[i]?=some x,λi H x H'=>H'=H/\∀xs,SqT K H a xs->xs[i]?=some x,λi H=>∃xs,SqT K H a xs/\xs.length<=i⟩
def UW(lo:Int)(n:Nat):It:=⟨λi _=>i<n,λi H x H'=>H'=H/\x=.int (lo+i),λi _=>n<=i⟩
def Uq{P:bQ}{w:cF}{K:bA}{tg:Expr}(a it:Addr):Turn P w K tg (WV K a) [it] it (λi h=>h.IsListIter it a i) where
 mem:=by simp
 obj:=λi h st b hb=>by
  have e:b=it:=by simpa using hb
  subst e;obtain⟨o,e,c,d⟩:=st;exact⟨o,e,λv z=>by rw[d]at z;cases z⟩
 keep:=λi h h' st k=>st.at λo e=>k it (by simp) o e
 item:=by
  intro X hP hw hK hc i pins s U H E I hf st hg;subst hP hw hK;obtain⟨xs,x,hq,hx⟩:=hg;obtain⟨its,rv,p,hz⟩:=I.list hq;obtain⟨u,hu,ru⟩:=rv.get hx;obtain⟨f0,f1,f2,f3,f4,f5⟩:=hf it (by simp);refine wpAny_pyNext_list_item st p.isList (x:=u) (by simpa using hu) λh' st' sb=>?_;have I1:Inv X pins U H {s with heap:=h'}:=I.turned (t':=s.toks) (λb o hb e=>(sb.2 b hb).trans e) f0 f1 f3 f4 f5;obtain⟨o,e,c,d⟩:=id st';exact⟨u,rfl,K5 (s:={s with heap:=h'}) e c d (by decide) ⟨x,H,I1,ru,⟨rfl,λys hy=>by rw[I.list_inj hy hq];exact hx⟩,st',λb hb=>(hf b hb).1⟩⟩
 done:=by
  intro X hP hw hK hc i pins s U H E I hf st hg;subst hP hw hK;obtain⟨xs,hq,hx⟩:=hg;obtain⟨its,rv,p,hz⟩:=I.list hq;obtain⟨f0,f1,f2,f3,f4,f5⟩:=hf it (by simp);have hl:=rv.length;exact wpAny_pyNext_list_end (I.ok.hd hc) st p.isList (by simp;lia) λh' eb=>⟨rfl,I.turned (t':=s.toks) (λb o hb e=>eb b o hb e) f0 f1 f3 f4 f5⟩
 self:=λ_ _ _ _ _ st h=>wpAny_pyIter_listiter st h
def Pr{P:bQ}{w:cF}{K:bA}{tg:Expr}(a it:Addr):Turn P w K tg (WU K a) [it] it (λi h=>h.IsTupleIter it a i) where
 mem:=by simp
 obj:=λi h st b hb=>by
  have e:b=it:=by simpa using hb
  subst e;obtain⟨o,e,c,d⟩:=st;exact⟨o,e,λv z=>by rw[d]at z;cases z⟩
 keep:=λi h h' st k=>st.at λo e=>k it (by simp) o e
 item:=by
  intro X hP hw hK hc i pins s U H E I hf st hg;subst hP hw hK;obtain⟨xs,x,hq,hx⟩:=hg;obtain⟨its,rv,p,hz⟩:=I.tuple hq;obtain⟨u,hu,ru⟩:=rv.get hx;obtain⟨f0,f1,f2,f3,f4,f5⟩:=hf it (by simp);refine wpAny_pyNext_tuple_item st (show s.heap.IsTuple a its.toArray from p) (x:=u) (by simpa using hu) λh' st' sb=>?_;have I1:Inv X pins U H {s with heap:=h'}:=I.turned (t':=s.toks) (λb o hb e=>(sb.2 b hb).trans e) f0 f1 f3 f4 f5;obtain⟨o,e,c,d⟩:=id st';exact⟨u,rfl,K5 (s:={s with heap:=h'}) e c d (by decide) ⟨x,H,I1,ru,⟨rfl,λys hy=>by rw[I.tuple_inj hy hq];exact hx⟩,st',λb hb=>(hf b hb).1⟩⟩
 done:=by
  intro X hP hw hK hc i pins s U H E I hf st hg;subst hP hw hK;obtain⟨xs,hq,hx⟩:=hg;obtain⟨its,rv,p,hz⟩:=I.tuple hq;obtain⟨f0,f1,f2,f3,f4,f5⟩:=hf it (by simp);have hl:=rv.length;exact wpAny_pyNext_tuple_end (I.ok.hd hc) st (show s.heap.IsTuple a its.toArray from p) (by simp;lia) λh' eb=>⟨rfl,I.turned (t':=s.toks) (λb o hb e=>eb b o hb e) f0 f1 f3 f4 f5⟩
 self:=λ_ _ _ _ _ st h=>wpAny_pyIter_tupleiter st h
def Pq{P:bQ}{w:cF}{K:bA}{tg:Expr}(it:Addr)(lo:Int)(n:Nat):Turn P w K tg (UW lo n) [it] it (λi h=>IsRangeIter h it (lo+(i:Nat) * 1) ((n:Int) - (i:Nat)) 1) where
 mem:=by simp
 obj:=λi h st b hb=>by
  have e:b=it:=by simpa using hb
  subst e;exact⟨_,st,λv z=>by
   have z':pF _=oC v:=z;cases z'⟩
 keep:=λi h h' st k=>k it (by simp) _ st
 item:=by
  intro X hP hw hK hc i pins s U H E I hf st hg;subst hP hw hK;obtain⟨f0,f1,f2,f3,f4,f5⟩:=hf it (by simp);have W:=Walks.range (prog:=X.prog) (w:=X.w) (I.ok.hd hc) it lo 1 n;refine W.item i s _ _ hg st λv h' tk hv st' kk=>?_;obtain⟨t,rfl⟩:=hv;have I1:Inv X pins U H {s with heap:=h',toks:=tk}:=I.turned (λb o hb e=>kk b o (by simpa using hb) e) f0 f1 f3 f4 f5;refine⟨_,rfl,K5 (s:={s with heap:=h',toks:=tk}) (n:="range_iterator") st' rfl rfl (by decide) ⟨.int (lo+i),H,I1,⟨t,?_⟩,⟨rfl,rfl⟩,st',λb hb=>(hf b hb).1⟩⟩;rw[Int.mul_one]
 done:=by
  intro X hP hw hK hc i pins s U H E I hf st hg;subst hP hw hK;obtain⟨f0,f1,f2,f3,f4,f5⟩:=hf it (by simp);exact wpAny_pyNext_range_end (I.ok.hd hc) st (by have:n<=i:=hg;lia) λh' eb=>⟨rfl,I.turned (t':=s.toks) (λb o hb e=>eb b o hb e) f0 f1 f3 f4 f5⟩
 self:=λ_ _ _ _ _ st h=>wpAny_pyIter_rangeiter st h
end L2
namespace L2
open PySem PySem.Spec PyProof.Rows
section
variable{X:Cx}{tg:Expr}
def Yy{pins:List (Addr×Obj)}{U:St}{H:Hp}{s:aN}{R:It->Hp->Prop}{E:aH->aN->Prop}{lo hi:Int}{t u v:Tok}{tk:Nat}(I:Inv X pins U H s)(h1:-(2 ^ 62)<=lo)(h2:lo<2 ^ 62)(h3:-(2 ^ 62)<=hi)(h4:hi<2 ^ 62)
  (q:R (UW lo (hi - lo).toNat) H):aQ (bI X.prog X.w) X.A (pyIter (.ref s.heap.objs.size)) (YQ X pins U tg R) E {s with heap:=s.heap.push {cls:=.type "range",data:=.fields #[.int lo t,.int hi u,.int 1 v]},toks:=tk}:=by
 refine wpAny_pyIter_range (IsRange.new ..) (small_one h1 h2 h3 h4) ?_;have I1:Inv X pins U H {s with heap:=s.heap.push {cls:=.type "range",data:=.fields #[.int lo t,.int hi u,.int 1 v]},toks:=tk}:=I.kept λb o e=>aC _ e;refine⟨(s.heap.push {cls:=.type "range",data:=.fields #[.int lo t,.int hi u,.int 1 v]}).objs.size,[(s.heap.push {cls:=.type "range",data:=.fields #[.int lo t,.int hi u,.int 1 v]}).objs.size],_,_,H,rfl,
  I1.kept (t':=tk) λb o e=>aC _ e,Pq _ lo (hi - lo).toNat,?_,λb hb=>?_,q⟩
 ·have e1:lo+((0:Nat):Int) * 1=lo:=by simp
  have e2:(((hi - lo).toNat:Nat):Int) - ((0:Nat):Int)=Builtin.Range.rangeSize lo hi 1:=by rw[rangeSize_one];split<;>lia
  show IsRangeIter _ _ (lo+((0:Nat):Int) * 1) ((((hi - lo).toNat:Nat):Int) - ((0:Nat):Int)) 1;rw[e1,e2];exact aT _ rfl
 ·have e:b=(s.heap.push {cls:=.type "range",data:=.fields #[.int lo t,.int hi u,.int 1 v]}).objs.size:=by simpa using hb
  subst e;exact I1.fpOk (aR _) (I1.hok.fresh (aR _))
def QQ(ta:TA):TI:=λU H R=>ta U H λvs H1=>∃j:Int,vs=[.int j]/\-(2 ^ 62)<=j/\j<2 ^ 62/\R (UW 0 j.toNat) H1
def Tw{a:Expr}{ta:TA}{p pos:Pos}(hg:Gl X "range")(hm:X.mg "range"=none)(ha:PA X [a] ta)(hs:bF [a] X.env=[(false,eval a X.env)]:=by rfl):PI X tg (.Call (.Name "range" p) [a] [] pos) (QQ ta):=by
 intro pins s U H R I h;refine Call_ (xg I hg hm boot_range (gF (jh (ha pos pins s U H _ I h) λus s1 ⟨vs,H1,I1,r1,q1⟩=>?_) hs rfl));obtain⟨j,e,q1,q2,q⟩:=q1;subst e;cases r1 with
 |cons r rr=>
  cases rr;obtain⟨t,rfl⟩:=r;exact call_range_1 (Yy I1 (by lia) (by lia) q1 q2 (by simpa using q))
def XH(wi:TI)(g:TG)(tb:TS):TS:=λD U H=>wi U H λJ H1=>∃W:Nat->Nat->St->Hp->Prop,(∃m,W 0 m U H1)/\∀i m U H,W i m U H->
 (J.stop i H/\D.nx U H)\/(J.go i H/\∃N:St->Hp->Prop,(∀σ' H',N σ' H'->∃m',m'<m/\W (i+1) m' σ' H')/\∀x H',J.yld i H x H'->g x U H' λσ2 H2=>tb {D with nx:=N,ct:=N,bk:=D.nx} σ2 H2)
def Am(fp:List Addr)(h:Heap):List (Addr×Obj):=fp.filterMap λb=>(h.get? b).map λo=>(b,o)
def xh{h:Heap}(hb:b∈fp)(e:h.get? b=some o):(b,o)∈Am fp h:=List.mem_filterMap.mpr ⟨b,hb,by rw[e];rfl⟩
def Ts{h:Heap}(hp:p∈Am fp h):p.1∈fp/\h.get? p.1=some p.2:=by
 obtain⟨b,hb,e⟩:=List.mem_filterMap.mp hp;cases q:h.get? b with
 |none=>rw[q]at e;cases e
 |some o=>
  rw[q]at e;have e':(b,o)=p:=bM e;subst e';exact⟨hb,q⟩
def Inv.pinned{s:aN}(I:Inv X pins U H s)(hf:∀b∈fp,Bu X pins H b)(ho:∀b∈fp,∃o,s.heap.get? b=some o/\∀v,o.data≠.cell v):Inv X (pins++Am fp s.heap) U H s:=
 I.pins_of λp hp=>(List.mem_append.mp hp).elim (λz=>I.pin p (eI _ z)) λz=>by
  obtain⟨hb,e⟩:=Ts z;obtain⟨f0,f1,f2,_⟩:=hf p.1 hb;obtain⟨o,e',d⟩:=ho p.1 hb;rw[e]at e';cases e';exact⟨e,f0,f1,f2,d⟩
def Inv.unpinned(I:Inv X (pins++pl) U H s):Inv X pins U H s:=I.pins_of λp hp=>I.pin p (eI _ (jW _ hp))
def LG(hp:PassesOwn (bI X.prog X.w) X.A X.env X.xe)(hc:X.calm=true)(hi:PI X tg iter wi)(hg:PG X tg g)(hb:PSs X body tb)
  (hs:∀x,hJ iter X.env x=pure x:=by intro _;rfl):PS X (.For tg iter body [] pos) (XH wi g tb):=by
 intro pins s U H D I h;refine wpAny_For (jh (hi pins s U H _ I h) λv s1 h1=>jh h1 λitv s2 h2=>?_) hs;obtain⟨it,fp,tn,J,H2,e,I2,T,st2,f2,W,⟨m0,w0⟩,turn⟩:=h2;subst e;have stat:∀{H':Hp},(∀b∈fp,H' b=none)->∀b∈fp,Bu X pins H' b:=λhn b hb=>⟨hn b hb,(f2 b hb).2⟩;refine codeAny_forLoop_any (λn s'=>∃i σ' H',Inv X pins σ' H' s'/\tn i s'.heap/\(∀b∈fp,H' b=none)/\W i n σ' H') ?_ m0 ⟨0,U,H2,I2,st2,λb hb=>(f2 b hb).1,w0⟩
 rintro n s3 ⟨i,σ3,H3,I3,st3,fr3,w3⟩
 rcases turn i n σ3 H3 w3 with ⟨stop,qn⟩|⟨go,N,hN,step⟩
 ·refine kX hp (jh (T.done X rfl rfl rfl hc i pins s3 σ3 H3 X.xe I3 (stat fr3) st3 stop) λr s4 ⟨hr,I4⟩=>?_);subst hr;exact oV ⟨σ3,H3,I4,qn⟩
 ·refine kX hp (jh (T.item X rfl rfl rfl hc i pins s3 σ3 H3 X.xe I3 (stat fr3) st3 go) λr s4 ⟨u,hr,h4⟩=>?_);subst hr;refine kX hp (jh h4 λ_ s5 ⟨x,H5,I5,r5,y5,st5,fr5⟩=>?_);have I5':=I5.pinned (stat fr5) (T.obj _ _ st5);refine kX hp (jh (hg _ s5 σ3 H5 x u _ I5' r5 (step x H5 y5)) λ_ s6 ⟨σ6,H6,I6,q6⟩=>?_);refine kX hp (jh (hb _ s6 σ6 H6 _ I6 q6) λf s7 q7=>?_);have again:∀{σ7:St}{H7:Hp},Inv X (pins++Am fp s5.heap) σ7 H7 s7->N σ7 H7->∃m,m<n/\∃i σ' H',Inv X pins σ' H' s7/\tn i s7.heap/\(∀b∈fp,H' b=none)/\W i m σ' H':=λ{σ7 H7} I7 n7=>by
   obtain⟨m',hm,w7⟩:=hN σ7 H7 n7;refine⟨m',hm,i+1,σ7,H7,I7.unpinned,T.keep _ _ _ st5 λb hb o e=>(I7.pin (b,o) (eI _ (eI _ (xh hb e)))).1,λb hb=>?_,w7⟩;obtain⟨o,e,d⟩:=T.obj _ _ st5 b hb;exact(I7.pin (b,o) (eI _ (eI _ (xh hb e)))).2.1
  cases f with
  |next=>obtain⟨σ7,H7,I7,n7⟩:=q7;exact again I7 n7
  |cont=>obtain⟨σ7,H7,I7,n7⟩:=q7;exact again I7 n7
  |brk=>obtain⟨σ7,H7,I7,q7⟩:=q7;exact⟨σ7,H7,I7.unpinned,q7⟩
  |ret v=>obtain⟨x7,σ7,H7,I7,r7,q7⟩:=q7;exact⟨x7,σ7,H7,I7.unpinned,r7,q7⟩
end
end L2
namespace L2
open PySem PySem.Spec PyProof.Rows
abbrev R2:=V->V->Hp->VK->Prop
def OpR(X:Cx)(f:aH->aH->Sem aH)(r:R2):Prop:=
 ∀(pins:List (Addr×Obj))(s:aN)(U:St)(H:Hp)(x y:V)(v u:aH)(Q:VK),Inv X pins U H s->RelV x v->RelV y u->r x y H Q->
  aQ (bI X.prog X.w) X.A (f v u) (EP X pins U Q) X.xe s
def CallR(X:Cx)(f:aH)(r:List V->Hp->VK->Prop):Prop:=
 ∀(pins:List (Addr×Obj))(s:aN)(U:St)(H:Hp)(xs:List V)(us:List aH)(Q:VK),Inv X pins U H s->Vals xs us->r xs H Q->
  aQ (bI X.prog X.w) X.A (call f us) (EP X pins U Q) X.xe s
def WO(X:Cx)(r:V->Hp->(Bool->Hp->Prop)->Prop):Prop:=
 ∀(pins:List (Addr×Obj))(s:aN)(U:St)(H:Hp)(x:V)(v:aH)(Q:Bool->Hp->Prop),Inv X pins U H s->RelV x v->r x H Q->
  aQ (bI X.prog X.w) X.A (truthy v) (TP X pins U Q) X.xe s
def SL(r:R2)(ta tb:TE):TE:=λU H Q=>ta U H λx H1=>tb U H1 λy H2=>r x y H2 Q
def rI(C:Int->Int->Prop)(g:Int->Int->V):R2:=λx y H Q=>∃i j,x=.int i/\y=.int j/\C i j/\Q (g i j) H
def AO(g:Int->Int->V):R2:=λx y H Q=>∃i j,x=.int i/\y=.int j/\Q (g i j) H
section
variable{X:Cx}{a b c:Expr}{ta tb tc:TE}{pos:Pos}
def JW(ha:PE X a ta)(hb:PE X b tb){pins:List (Addr×Obj)}{s:aN}{U:St}{H:Hp}{R:V->V->Hp->Prop}(I:Inv X pins U H s)
  (h:ta U H λx H1=>tb U H1 λy H2=>R x y H2){Q:aH->aN->Prop}{f:aH->aH->Sem aH}
  (hf:∀v u s2 x y H2,Inv X pins U H2 s2->RelV x v->RelV y u->R x y H2->aQ (bI X.prog X.w) X.A (f v u) Q X.xe s2):
  aQ (bI X.prog X.w) X.A (eval a X.env) (λv s₁=>aQ (bI X.prog X.w) X.A (eval b X.env) (λu s₂=>aQ (bI X.prog X.w) X.A (f v u) Q X.xe s₂) X.xe s₁) X.xe s:=by
 refine jh (ha pins s U H _ I h) λv s1 ⟨x,H1,I1,r1,q1⟩=>?_;refine jh (hb pins s1 U H1 _ I1 q1) λu s2 ⟨y,H2,I2,r2,q2⟩=>?_;exact hf v u s2 x y H2 I2 r1 r2 q2
def RV{op:Operator}(ho:OpR X (iO op) r)(ha:PE X a ta)(hb:PE X b tb):PE X (.BinOp a op b pos) (SL r ta tb):=by
 intro pins s U H Q I h;exact wpAny_BinOp (JW ha hb I h λv u s2 x y H2 I2 rx ry q=>ho pins s2 U H2 x y v u Q I2 rx ry q)
def XX{g:Int->Int->Int}
  (rule:∀(i j:Int)(t u:Tok)(s:aN)(Q:aH->aN->Prop)(E:aH->aN->Prop),C i j->Q (.int (g i j) s.toks) {s with toks:=s.toks+1}->aQ (bI X.prog X.w) X.A (f (.int i t) (.int j u)) Q E s):
  OpR X f (rI C λi j=>.int (g i j)):=by
 intro pins s U H x y v u Q I rx ry h;obtain⟨i,j,rfl,rfl,hc,q⟩:=h;obtain⟨t,rfl⟩:=rx;obtain⟨t',rfl⟩:=ry;exact rule i j t t' s _ _ hc ⟨.int (g i j),H,I.tok _,⟨_,rfl⟩,q⟩
def QF{g:Int->Int->Int}
  (rule:∀(i j:Int)(t u:Tok)(s:aN)(Q:aH->aN->Prop)(E:aH->aN->Prop),Q (.int (g i j) s.toks) {s with toks:=s.toks+1}->aQ (bI X.prog X.w) X.A (f (.int i t) (.int j u)) Q E s):
  OpR X f (AO λi j=>.int (g i j)):=by
 intro pins s U H x y v u Q I rx ry h;obtain⟨i,j,rfl,rfl,q⟩:=h;obtain⟨t,rfl⟩:=rx;obtain⟨t',rfl⟩:=ry;exact rule i j t t' s _ _ ⟨.int (g i j),H,I.tok _,⟨_,rfl⟩,q⟩
def DU{g:Int->Int->Bool}
  (rule:∀(i j:Int)(t u:Tok)(s:aN)(Q:aH->aN->Prop)(E:aH->aN->Prop),Q (.bool (g i j)) s->aQ (bI X.prog X.w) X.A (f (.int i t) (.int j u)) Q E s):
  OpR X f (AO λi j=>.bl (g i j)):=by
 intro pins s U H x y v u Q I rx ry h;obtain⟨i,j,rfl,rfl,q⟩:=h;obtain⟨t,rfl⟩:=rx;obtain⟨t',rfl⟩:=ry;exact rule i j t t' s _ _ ⟨.bl (g i j),H,I,rfl,q⟩
def WY(i j:Int):Prop:=0<j/\j<1073741824
def CMul(i j:Int):Prop:=(-(2 ^ 64)<i/\i<2 ^ 64)\/(-(2 ^ 64)<j/\j<2 ^ 64)
def CMul.ok(h:CMul i j):IntMulOk i j:=by
 rcases h with ⟨h1,h2⟩|⟨h1,h2⟩
 ·exact .of_left (intBits_le_64 h1 h2)
 ·exact .of_right (intBits_le_64 h1 h2)
def KJ:OpR X (iO .Add) (AO λi j=>.int (i+j)):=QF λ_ _ _ _ _ _ _ q=>add_int q
def LZ:OpR X (iO .Sub) (AO λi j=>.int (i - j)):=QF λ_ _ _ _ _ _ _ q=>sub_int q
def KC:OpR X (iO .Mult) (rI CMul λi j=>.int (i * j)):=XX λ_ _ _ _ _ _ _ hc q=>mul_int q hc.ok
def DR:OpR X (iO .FloorDiv) (rI WY λi j=>.int (i / j)):=XX λi j _ _ _ _ _ hc q=>by
 have h1:(0:Int)<j:=hc.1;have h2:j<1073741824:=hc.2;exact floordiv_int (by lia) (by rw[Int.fdiv_eq_ediv_of_nonneg i (by lia)];exact q) (.inl (PyProof.noPylong_small (by lia)))
def KD:OpR X (iO .Mod) (rI (λ_ j=>0<j) λi j=>.int (i % j)):=XX λi j _ _ _ _ _ hc q=>by
 have h1:(0:Int)<j:=hc;exact mod_int' (by lia) (by rw[Int.fmod_eq_emod_of_nonneg i (by lia)];exact q)
end
section
variable{X:Cx}{a b c:Expr}{ta tb tc:TE}{pos:Pos}
def Ir(I:Inv X pins U H s)(q:Q (.bl k) H)(e:k=k'):EP X pins U Q (.bool k') s:=by
 subst e;exact⟨.bl k,H,I,rfl,q⟩
def QB:OpR X (cN .Lt) (AO λi j=>.bl (decide (i<j))):=DU λ_ _ _ _ _ _ _ q=>lt_int q
def QC:OpR X (cN .LtE) (AO λi j=>.bl (decide (i<=j))):=DU λ_ _ _ _ _ _ _ q=>le_int q
def QD:OpR X (cN .Gt) (AO λi j=>.bl (decide (j<i))):=DU λ_ _ _ _ _ _ _ q=>gt_int q
def QE:OpR X (cN .GtE) (AO λi j=>.bl (decide (j<=i))):=DU λ_ _ _ _ _ _ _ q=>ge_int q
def Tu:OpR X (cN .In) (λx y H Q=>∃i j,x=.str i/\y=.str j/\Q (.bl (!(lA j i 0 j.length 1).isEmpty)) H):=by
 intro pins s U H x y v u Q I rx ry h;obtain⟨i,j,rfl,rfl,q⟩:=h;obtain⟨t,rfl⟩:=rx;obtain⟨t',rfl⟩:=ry;exact in_str (Ir I q rfl)
def KF:OpR X (cN .Is) (λx y H Q=>y=.non/\Q (.bl (decide (x=.non))) H):=by
 intro pins s U H x y v u Q I rx ry h;obtain⟨rfl,q⟩:=h;cases ry;refine is_none_gen (Ir I q ?_);cases x<;>first
  |(cases rx;rfl)
  |(obtain⟨t,rfl⟩:=rx;rfl)
def DO:OpR X (cN .IsNot) (λx y H Q=>y=.non/\Q (.bl (!decide (x=.non))) H):=by
 intro pins s U H x y v u Q I rx ry h;obtain⟨rfl,q⟩:=h;cases ry;refine isnot_none_gen (Ir I q ?_);cases x<;>first
  |(cases rx;rfl)
  |(obtain⟨t,rfl⟩:=rx;rfl)
def Jg:OpR X (cN .NotIn) (λx y H Q=>∃i j,x=.str i/\y=.str j/\Q (.bl (!(!(lA j i 0 j.length 1).isEmpty))) H):=by
 intro pins s U H x y v u Q I rx ry h;obtain⟨i,j,rfl,rfl,q⟩:=h;obtain⟨t,rfl⟩:=rx;obtain⟨t',rfl⟩:=ry;exact notIn_str (Ir I q rfl)
def OpR.or(h:OpR X f r)(h':OpR X f r'):OpR X f (λx y H Q=>r x y H Q\/r' x y H Q):=by
 intro pins s U H x y v u Q I rx ry q;rcases q with q|q
 ·exact h pins s U H x y v u Q I rx ry q
 ·exact h' pins s U H x y v u Q I rx ry q
def DI{op:CmpOp}(ho:OpR X (cN op) r)(ha:PE X a ta)(hb:PE X b tb)(hm:kR op b=false):PE X (.Compare a [op] [b] pos) (SL r ta tb):=by
 intro pins s U H Q I h;exact wpAny_Compare1 (JW ha hb I h λv u s2 x y H2 I2 rx ry q=>ho pins s2 U H2 x y v u Q I2 rx ry q) hm
def IL(t:TE):TT:=λU H Q=>t U H λx H'=>∃k,x=.bl k/\Q k H'
def Ro(ho:OpR X (cN op) r)(ha:PE X a ta)(hb:PE X b tb)(hm:kR op b=false):PT X (.Compare a [op] [b] pos) (IL (SL r ta tb)):=by
 intro pins s U H Q I h;refine wpAny_isTrue_Compare1 (jh (ha pins s U H _ I h) λv s1 ⟨x,H1,I1,r1,q1⟩=>jh (hb pins s1 U H1 _ I1 q1) λu s2 ⟨y,H2,I2,r2,q2⟩=>
  jh (ho pins s2 U H2 x y v u _ I2 r1 r2 q2) λc s3 ⟨z,H3,I3,r3,k,e,q3⟩=>?_) hm
 subst e;cases r3;exact dW ⟨H3,I3,q3⟩
def Pg(r r':R2)(ta tb tc:TE):TE:=λU H Q=>ta U H λx H1=>tb U H1 λy H2=>r x y H2 λz H3=>∃k,z=.bl k/\
 (if k=true then tc U H3 λw' H4=>r' y w' H4 Q else Q (.bl false) H3)
def X1(ho:OpR X (cN op) r)(ho':OpR X (cN op') r')(ha:PE X a ta)(hb:PE X b tb)(hc:PE X c tc)
  (hm:pN [op,op'] [b,c]=false:=by with_unfolding_all rfl):PE X (.Compare a [op,op'] [b,c] pos) (Pg r r' ta tb tc):=by
 intro pins s U H Q I h;refine Compare_chain (jh (ha pins s U H _ I h) λv s1 ⟨x,H1,I1,r1,q1⟩=>chain_link (jh (hb pins s1 U H1 _ I1 q1) λu s2 ⟨y,H2,I2,r2,q2⟩=>
  jh (ho pins s2 U H2 x y v u _ I2 r1 r2 q2) λd s3 ⟨z,H3,I3,r3,k,e,q3⟩=>?_)) hm
 subst e;cases r3;refine dW ?_;cases k with
 |false=>exact ite_ff ⟨.bl false,H3,I3,rfl,q3⟩
 |true=>exact ite_tt (chain_last (jh (hc pins s3 U H3 _ I3 q3) λw' s4 ⟨z',H4,I4,r4,q4⟩=>ho' pins s4 U H4 y z' u w' Q I4 r2 r4 q4))
def Yi(ho:OpR X (cN op) r)(ho':OpR X (cN op') r')(ha:PE X a ta)(hb:PE X b tb)(hc:PE X c tc)
  (hm:pN [op,op'] [b,c]=false:=by with_unfolding_all rfl):PT X (.Compare a [op,op'] [b,c] pos) (IL (Pg r r' ta tb tc)):=by
 intro pins s U H Q I h;refine isTrue_chain (jh (ha pins s U H _ I h) λv s1 ⟨x,H1,I1,r1,q1⟩=>test_link (jh (hb pins s1 U H1 _ I1 q1) λu s2 ⟨y,H2,I2,r2,q2⟩=>
  jh (ho pins s2 U H2 x y v u _ I2 r1 r2 q2) λd s3 ⟨z,H3,I3,r3,k,e,q3⟩=>?_)) hm
 subst e;cases r3;refine dW ?_;cases k with
 |false=>
  obtain⟨k',e',q'⟩:=q3;cases e';exact ite_ff ⟨H3,I3,q'⟩
 |true=>
  refine ite_tt (test_last (jh (hc pins s3 U H3 _ I3 q3) λw' s4 ⟨z',H4,I4,r4,q4⟩=>jh (ho' pins s4 U H4 y z' u w' _ I4 r2 r4 q4) λd' s5 ⟨z2,H5,I5,r5,k2,e2,q5⟩=>?_));subst e2;cases r5;exact dW ⟨H5,I5,q5⟩
def ID(K:bA)(x:V)(H:Hp)(k:Bool):Prop:=
 match x with
 |.non=>k=false
 |.bl b=>k=b
 |.int i=>k=(i !=0)
 |.str y=>y.length<=aM/\k=((y.length:Int) !=0)
 |.byt y=>y.size<=aM/\k=((y.size:Int) !=0)
 |.ref p=>(∃xs,SqL K H p xs/\k= !xs.isEmpty)\/(∃xs,SqT K H p xs/\k= !xs.isEmpty)\/∃kvs,H p=some (.dK kvs)/\k= !kvs.isEmpty
 |_=>False
def N6{kvs:List (κ×V)}{vs:List (κ×aH)}(r:KV kvs vs):(!vs.isEmpty)= !kvs.isEmpty:=by
 cases r<;>rfl
def Do{xs:List V}{its:List aH}(r:Vals xs its):(!its.toArray.isEmpty)= !xs.isEmpty:=by
 cases r<;>simp
def Dy:(aM:Nat)<2 ^ 63:=by rw[eU];decide
def NH:WO X (λx H Q=>∃k,ID X.K x H k/\Q k H):=by
 intro pins s U H x v Q I rx h;obtain⟨k,e,q⟩:=h;have hl:=Dy;have hs:aM=16777216:=eU;cases x with
 |non=>
  cases rx;have e':k=false:=e;subst e';exact truthy_none ⟨H,I,q⟩
 |bl b=>
  cases rx;have e':k=b:=e;subst e';exact dW ⟨H,I,q⟩
 |int i=>
  obtain⟨t,rfl⟩:=rx;have e':k=(i !=0):=e;subst e';exact PySem.P.truthy_int ⟨H,I,q⟩
 |str y=>
  obtain⟨t,rfl⟩:=rx;obtain⟨hy,e'⟩:y.length<=aM/\k=((y.length:Int) !=0):=e;subst e';exact PySem.P.truthy_str (by lia) ⟨H,I.tok _,q⟩
 |byt y=>
  obtain⟨t,rfl⟩:=rx;obtain⟨hy,e'⟩:y.size<=aM/\k=((y.size:Int) !=0):=e;subst e';exact PySem.W.truthy_bytes (by lia) ⟨H,I.tok _,q⟩
 |ref p=>
  cases rx;have e':(∃xs,SqL X.K H p xs/\k= !xs.isEmpty)\/(∃xs,SqT X.K H p xs/\k= !xs.isEmpty)\/∃kvs,H p=some (.dK kvs)/\k= !kvs.isEmpty:=e;rcases e' with ⟨xs,hx,e'⟩|⟨xs,hx,e'⟩|⟨kvs,hx,e'⟩
  ·subst e';obtain⟨its,r,pl,hz⟩:=I.list hx;have hlen:=r.length;exact wpAny_truthy_list pl.isList (by simp only[bL];lia) ⟨H,I.tok _,by rw[Do r];exact q⟩
  ·subst e';obtain⟨its,r,pl,hz⟩:=I.tuple hx;have hlen:=r.length;exact truthy_tuple pl (by simp only[bL];lia) ⟨H,I.tok _,by rw[Do r];exact q⟩
  ·subst e';obtain⟨hz,hS,vs,r,m⟩:kvs.length<=aM/\(p==fN)=false/\∃vs,KV kvs vs/\s.heap.DictOf (bb X.prog X.w) p vs:=I.hok p _ hx;have hlen:kvs.length=vs.length:=kQ r;exact wpAny_truthy_dict hS m (by lia) ⟨H,I.tok _,by rw[N6 r];exact q⟩
 |_=>exact(show False from e).elim
def Yk(ha:PE X a ta)(he:∀whole,isTrue a X.env whole=(do let v <-whole;standAt a.pos;pO [v] (truthy v))):
  PT X a (λU H Q=>ta U H λx H'=>∃k,ID X.K x H' k/\Q k H'):=by
 intro pins s U H Q I h;exact isTrue_plain (jh (ha pins s U H _ I h) λv s1 ⟨x,H1,I1,r1,q1⟩=>NH pins s1 U H1 x v Q I1 r1 q1) (he _)
def On:OpR X (iO .Add) (λx y H Q=>∃i j,x=.str i/\y=.str j/\i.length+j.length<=aM/\Q (.str (i++j)) H):=by
 intro pins s U H x y v u Q I rx ry h;obtain⟨i,j,rfl,rfl,hz,q⟩:=h;obtain⟨t,rfl⟩:=rx;obtain⟨t',rfl⟩:=ry;exact add_str (λt' tk=>⟨.str (i++j),H,I.tok _,⟨_,rfl⟩,q⟩) hz
def mj(r:Vals [x] us):∃u,us=[u]/\RelV x u:=by
 cases r with
 |cons r1 r2=>cases r2;exact⟨_,rfl,r1⟩
def Z6(r:Vals [x,y] us):∃u w',us=[u,w']/\RelV x u/\RelV y w':=by
 cases r with
 |cons r1 r2=>
  cases r2 with
  |cons r3 r4=>cases r4;exact⟨_,_,rfl,r1,r3⟩
def Se:CallR X (.type "int") (λxs H Q=>(∃i,xs=[.int i]/\Q (.int i) H)\/∃k,xs=[.bl k]/\Q (.int (if k then 1 else 0)) H):=by
 intro pins s U H xs us Q I r h;rcases h with ⟨i,rfl,q⟩|⟨k,rfl,q⟩
 ·obtain⟨u,rfl,t,rfl⟩:=mj r;exact call_int_int ⟨.int i,H,I,⟨_,rfl⟩,q⟩
 ·obtain⟨u,rfl,r1⟩:=mj r;cases r1;exact call_int_bool ⟨.int (if k then 1 else 0),H,I.tok _,⟨_,rfl⟩,q⟩
def WS(K:bA)(x:V)(H:Hp)(n:Nat):Prop:=
 match x with
 |.str y=>y.length<=aM/\n=y.length
 |.byt y=>y.size<=aM/\n=y.size
 |.ref p=>(∃xs,SqL K H p xs/\n=xs.length)\/∃xs,SqT K H p xs/\n=xs.length
 |_=>False
def Vj:CallR X (.builtin "len") (λxs H Q=>∃x n,xs=[x]/\WS X.K x H n/\Q (.int n) H):=by
 intro pins s U H xs us Q I r h;obtain⟨x,n,rfl,e,q⟩:=h;obtain⟨u,rfl,rx⟩:=mj r;have hl:=Dy;have hs:aM=16777216:=eU;cases x with
 |str y=>
  obtain⟨t,rfl⟩:=rx;obtain⟨hy,e'⟩:y.length<=aM/\n=y.length:=e;subst e';exact len_str (by lia) ⟨.int _,H,I.tok _,⟨_,rfl⟩,q⟩
 |byt y=>
  obtain⟨t,rfl⟩:=rx;obtain⟨hy,e'⟩:y.size<=aM/\n=y.size:=e;subst e';exact PySem.W.len_bytes (by lia) ⟨.int _,H,I.tok _,⟨_,rfl⟩,q⟩
 |ref p=>
  cases rx;have e':(∃xs,SqL X.K H p xs/\n=xs.length)\/∃xs,SqT X.K H p xs/\n=xs.length:=e;rcases e' with ⟨xs,hx,e'⟩|⟨xs,hx,e'⟩
  ·subst e';obtain⟨its,r',pl,hz⟩:=I.list hx;have hlen:=r'.length;exact Calls.call_len_list pl.isList (by simp only[bL];lia) ⟨.int xs.length,H,I.tok _,⟨_,by simp only[bL];rw[hlen]⟩,q⟩
  ·subst e';obtain⟨its,r',pl,hz⟩:=I.tuple hx;have hlen:=r'.length;exact len_tuple pl (by simp only[bL];lia) ⟨.int xs.length,H,I.tok _,⟨_,by simp only[bL];rw[hlen]⟩,q⟩
 |_=>exact(show False from e).elim
end
end L2
namespace L2
open PySem PySem.Spec PyProof.Rows
def RelO.some_of(r:RelO (some v) o):∃u,o=some u/\RelV v u:=by
 cases o with
 |none=>exact(show False from r).elim
 |some u=>exact⟨u,rfl,r⟩
end L2
namespace L2
open PySem PySem.Spec PyProof.Rows
structure Room(k:Nat)(A:cS):Prop where
 hd:A.handled=none
 dp:A.depth+3 * k+5<recursionLimit
 un:A.units+16 * k+200<eD
theorem Room.deeper{A:cS}(r:Room (k+1) A)(env:Env):Room k (A.deeper env):=
 ⟨r.hd,by have:=r.dp;show A.depth+1+3 * k+5<_;lia,by have:=r.un;show A.units+3+16 * k+200<_;lia⟩
theorem Room.depth{A:cS}(r:Room k A):A.depth<recursionLimit:=by have:=r.dp;lia
def NL:TA:=λ_ H Q=>Q [] H
def IP(ta:TE)(tr:TA):TA:=λU H Q=>ta U H λx H1=>tr U H1 λxs H2=>Q (x::xs) H2
section
variable{X:Cx}{e:Expr}{es:List Expr}{te:TE}{t:TA}{pos:Pos}
def Ji:PA X [] NL:=λ_ _ _ _ H Q I h=>nN ⟨[],H,I,.nil,h⟩
def vj(ha:PE X e te)(hr:PA X es t)(hs:bF (e::es) X.env=(false,eval e X.env)::bF es X.env:=by rfl):PA X (e::es) (IP te t):=by
 intro pos pins s U H Q I h;rw[hs];show aQ _ _ (spliced ((false,eval e X.env)::fG pos (bF es X.env))) _ _ s;refine iX (jh (ha pins s U H _ I h) λu s1 ⟨x,H1,I1,r1,q1⟩=>?_);exact jh (hr pos pins s1 U H1 _ I1 q1) λus s2 ⟨xs,H2,I2,r2,q2⟩=>⟨x::xs,H2,I2,.cons r1 r2,q2⟩
def XB(t:TA):TE:=λU H Q=>t U H λxs H1=>xs.length<=aM/\∀p,H1 p=none->Q (.ref p) (upd H1 p (.tup xs))
def XF(t:TA):TE:=λU H Q=>t U H λxs H1=>xs.length<=aM/\∀p,H1 p=none->Q (.ref p) (upd H1 p (.lst xs))
def LP{x1}(h:PA X es t):PE X (.Tuple es x1 pos) (XB t):=by
 intro pins s U H Q I hq;refine wpAny_Tuple_spliced (jh (h pos pins s U H _ I hq) λus s1 ⟨xs,H1,I1,r,z,q⟩=>⟨by rw[<-r.length];exact z,?_⟩);have hf:H1 s1.heap.objs.size=none:=I1.hok.fresh (aR _);refine⟨.ref s1.heap.objs.size,upd H1 s1.heap.objs.size (.tup xs),I1.laid (t':=s1.toks) (λb u e=>aC _ e) (aR _) ?_,rfl,q _ hf⟩;exact⟨z,us,r,⟨_,aT _ rfl,rfl,_,rfl⟩⟩
def LV(h:PA X es t):PE X (.List es pos) (XF t):=by
 intro pins s U H Q I hq;refine wpAny_List_spliced (jh (h pos pins s U H _ I hq) λus s1 ⟨xs,H1,I1,r,z,q⟩=>⟨by rw[<-r.length];exact z,?_⟩);have hf:H1 s1.heap.objs.size=none:=I1.hok.fresh (aR _);refine⟨.ref s1.heap.objs.size,upd H1 s1.heap.objs.size (.lst xs),I1.laid (t':=s1.toks) (λb u e=>aC _ e) (aR _) ?_,rfl,q _ hf⟩;exact⟨z,us,0,r,aT _ rfl⟩
end
abbrev Sp:=List V->Hp->VK->XK->Prop
abbrev AV:=List Env->Hp->aN->XK->aH->aN->Prop
structure Env0(P:bQ)(w:cF)(K:bA)(mg:Str->Option aH)(base:Heap)(A:cS)(outer:List Env)(s:aN)(H:Hp):Prop where
 frames:A.frames=some outer
 mod:Mod K mg base
 bs:∀b o,base.get? b=some o->s.heap.get? b=some o/\H b=none
 bsz:base.objs.size<=s.heap.objs.size
 funs:s.heap.FunFrames base outer
 frf:∀b∈Ft outer,H b=none
 hok:HOk P w H s.heap
 bare:mS s.gens
def CE(outer:List Env)(P:bQ)(w:cF)(H:Hp)(s:aN)(Q:VK)(u:aH)(s':aN):Prop:=
 ∃v H',s'.os=s.os/\mS s'.gens/\Un (Ft outer) [] H H' s.heap s'.heap/\HOk P w H' s'.heap/\RelV v u/\Q v H'
def CR(CX:AV)(outer:List Env)(P:bQ)(w:cF)(H:Hp)(s:aN)(Q:VK)(E:XK)(r:Result)(s':aN):Prop:=
 match r with
 |.ok (.ret u)=>CE outer P w H s Q u s'
 |.ok _=>False
 |.error e=>CX outer H s E e s'
structure FnOk(P:bQ)(w:cF)(K:bA)(mg:Str->Option aH)(base:Heap)(CX:AV)(k:Nat)(f:Addr)(fd:jG)(ps:List Str)(sp:Sp):Prop where
 len:∀vs H Q E,sp vs H Q E->vs.length=ps.length
 run:∀(A:cS)(outer:List Env)(s:aN)(H:Hp)(args:Args)(us:List aH)(vs:List V)(Q:VK)(E:XK),Room k A->Env0 P w K mg base A outer s H->BindsTo s fd args (ps.zip us)->Vals vs us->sp vs H Q E->
  hU (bI P w) A (.call (.ref f) args) (CR CX outer P w H s Q E) s
def FnOk.imp{P:bQ}{w:cF}{K:bA}{mg:Str->Option aH}{base:Heap}{CX:AV}{k:Nat}{f:Addr}{fd:jG}{ps:List Str}{sp sp':Sp}(F:FnOk P w K mg base CX k f fd ps sp)
  (h:∀vs H Q E,sp' vs H Q E->sp vs H Q E):FnOk P w K mg base CX k f fd ps sp':=
 ⟨λvs H Q E q=>F.len vs H Q E (h _ _ _ _ q),λA outer s H args us vs Q E hr he hb hv hs=>F.run A outer s H args us vs Q E hr he hb hv (h _ _ _ _ hs)⟩
section
variable{X:Cx}{pins:List (Addr×Obj)}{U:St}{H:Hp}{s s':aN}
def Inv.env0(I:Inv X pins U H s):Env0 X.prog X.w X.K X.mg X.base X.A X.stack s H:=
 ⟨I.ok.frames,I.ok.mod,I.bs,cM I.ok.bsz I.sz,I.stack,I.stkFree,I.hok,I.bare⟩
def Inv.after(I:Inv X pins U H s)(h:CE X.stack X.prog X.w H s Q u s'):EP X pins U Q u s':=by
 obtain⟨v,H',os,bare,un,hok,r,q⟩:=h;obtain⟨hh,g,d,t,os'⟩:=s';obtain rfl:os'=s.os:=os;exact⟨v,H',I.call (h':=hh) (g':=g) (d':=d) (t':=t) (ch:=[]) un hok bare (λb z=>absurd z (by simp)),r,q⟩
end
def IQ(sp:Sp)(dvs:List V)(E:XK)(t:TA):TE:=λU H Q=>t U H λvs H1=>sp (vs++dvs) H1 Q E
def Binds(K:bA)(fd:jG)(ps:List Str)(ds:List aH):Prop:=
 ∀(s:aN)(us:List aH),K.In s.heap->(us++ds).length=ps.length->BindsTo s fd ⟨us,[]⟩ (ps.zip (us++ds))
def Binds.all{K:bA}{fd:jG}{ps:List Str}(h:∀us:List aH,us.length=ps.length->bindArgs fd ⟨us,[]⟩=pure (ps.zip us)):Binds K fd ps []:=λs us _ hl=>by
 rw[eM]at hl⊢;exact .of_eq (h us hl)
def pj(CX:AV)(X:Cx)(E:XK):Prop:=∀(pins:List (Addr×Obj))(U:St)(H:Hp)(s:aN)(e:aH)(s':aN),Inv X pins U H s->CX X.stack H s E e s'->X.xe e s'
section
variable{X:Cx}{CX:AV}{k:Nat}{f C:Addr}{fd:jG}{ps:List Str}{sp:Sp}{dvs:List V}{ds:List aH}{E:XK}{x m:Str}{p pos apos:Pos}{e o:Expr}{es:List Expr}{ta:TE}{t:TA}
def O0(F:FnOk X.prog X.w X.K X.mg X.base CX k f fd ps sp)(hr:Room k X.A)(hb:Binds X.K fd ps ds)(hd:Vals dvs ds)(hx:pj CX X E)
  (I:Inv X pins U H s)(r:Vals vs us)(h:sp (vs++dvs) H Q E):aQ (bI X.prog X.w) X.A (call (.ref f) us) (EP X pins U Q) X.xe s:=by
 have r2:Vals (vs++dvs) (us++ds):=r.append hd;have hl:(us++ds).length=ps.length:=by rw[<-r2.length];exact F.len _ _ _ _ h
 refine wpAny_call (kJ (F.run X.A X.stack s H ⟨us,[]⟩ (us++ds) (vs++dvs) Q E hr I.env0 (hb s us I.kIn hl) r2 h) λr s' hq=>?_);cases r with
 |error e=>exact hx pins U H s e s' I hq
 |ok fl=>
  cases fl with
  |ret u=>exact I.after hq
  |next=>exact iY hq
  |brk=>exact iY hq
  |cont=>exact iY hq
def DJ(F:FnOk X.prog X.w X.K X.mg X.base CX k f fd ps sp)(hr:Room k X.A)(hg:Gl X x)(hm:X.mg x=some (.ref f))(hk:dI X.K (.ref f)=true)(hb:Binds X.K fd ps ds)(hd:Vals dvs ds)(hx:pj CX X E)
  (ha:PA X (e::es) t)(hdb:(x==("__debug__":Str))=false:=by decide)(he:bF (e::es) X.env=(false,eval e X.env)::bF es X.env:=by rfl)(hpl:(fG pos (bF es X.env)).any (·.1)=false:=by rfl):
  PE X (.Call (.Name x p) (e::es) [] pos) (IQ sp dvs E t):=by
 intro pins s U H Q I h;refine gR (Cb I hg hm ?_ hdb);refine PySem.W.callWith_K (h₀:=X.base) I.ok.mod.kin hk (jh (ha pos pins s U H _ I h) λus s1 ⟨vs,H1,I1,r,q⟩=>⟨I1.kIn,?_⟩) he hpl;exact O0 F hr hb hd hx I1 r q
def X0(F:FnOk X.prog X.w X.K X.mg X.base CX k f fd ps sp)(hr:Room k X.A)(hg:Gl X x)(hm:X.mg x=some (.ref f))(hk:dI X.K (.ref f)=true)(hb:Binds X.K fd ps ds)(hd:Vals dvs ds)(hx:pj CX X E)
  (hdb:(x==("__debug__":Str))=false:=by decide):PE X (.Call (.Name x p) [] [] pos) (IQ sp dvs E NL):=by
 intro pins s U H Q I h;refine gR (Cb I hg hm ?_ hdb);exact PySem.W.callWith_K0 I.kIn hk (O0 (us:=[]) F hr hb hd hx I .nil h)
structure Mk(K:bA)(C f:Addr):Prop where
 makes:PySem.W.makesIn K C=true
 init:PySem.W.findIn K (.ref C) "__init__"=some (some (.ref f))
 fn:PySem.W.isFn K (.ref f)=true
 kp:dI K (.ref C)=true
end
structure FnScope(N P:List Str)(sc:gI):Prop where
 kind:sc.kind=.function
 co:sc.isCoroutine=false
 gen:sc.isGenerator=false
 nd:N.Nodup
 pre:N.take P.length=P
 par:∀x∈P,sc.names.lookup x=some .local\/sc.names.lookup x=some .cell
 nofree:∀y∈sc.names,y.2≠.free
theorem Gb{kindOf:Str->Option iP}{x:Str}:∀{binds:List (Str×aH)}{m:Str->Option aH},(∀v,(x,v)∉binds)->bindL kindOf binds m x=m x
 |[],_,_=>rfl
 |(n,v)::r,m,h=>by
  unfold bindL;rw[Gb λw hw=>h w (aE _ hw)];split
  ·have:x≠n:=by rintro rfl;exact h v aI
   simp[this]
  ·rfl
theorem F9{kindOf:Str->Option iP}{x:Str}:∀{binds:List (Str×aH)}{m:Str->Option aH},(∀v,(x,v)∉binds)->bindC kindOf binds m x=m x
 |[],_,_=>rfl
 |(n,v)::r,m,h=>by
  unfold bindC;rw[F9 λw hw=>h w (aE _ hw)];split
  ·rfl
  ·have:x≠n:=by rintro rfl;exact h v aI
   simp[this]
theorem Ga{kindOf:Str->Option iP}{x:Str}{v:aH}:∀{P:List Str}{vs:List aH}{i:Nat}{m:Str->Option aH},P.Nodup->P[i]?=some x->vs[i]?=some v->kindOf x=some .local->
  bindL kindOf (P.zip vs) m x=some v
 |[],_,_,_,_,h,_,_=>by simp at h
 |_::_,[],_,_,_,_,h,_=>by simp at h
 |p::P,w::vs,0,m,nd,h1,h2,hk=>by
  simp at h1 h2;subst h1;subst h2;show bindL kindOf ((p,w)::P.zip vs) m p=_;unfold bindL;rw[Gb λv hv=>(List.nodup_cons.mp nd).1 (oW hv).1,aJ hk];simp
 |p::P,w::vs,i+1,m,nd,h1,h2,hk=>by
  show bindL kindOf ((p,w)::P.zip vs) m x=_;unfold bindL;exact Ga (i:=i) (List.nodup_cons.mp nd).2 (by simpa using h1) (by simpa using h2) hk
theorem F8{kindOf:Str->Option iP}{x:Str}{v:aH}:∀{P:List Str}{vs:List aH}{i:Nat}{m:Str->Option aH},P.Nodup->P[i]?=some x->vs[i]?=some v->kindOf x≠some .local->
  bindC kindOf (P.zip vs) m x=some v
 |[],_,_,_,_,h,_,_=>by simp at h
 |_::_,[],_,_,_,_,h,_=>by simp at h
 |p::P,w::vs,0,m,nd,h1,h2,hk=>by
  simp at h1 h2;subst h1;subst h2;show bindC kindOf ((p,w)::P.zip vs) m p=_;unfold bindC;rw[F9 λv hv=>(List.nodup_cons.mp nd).1 (oW hv).1,aK hk];simp
 |p::P,w::vs,i+1,m,nd,h1,h2,hk=>by
  show bindC kindOf ((p,w)::P.zip vs) m x=_;unfold bindC;exact F8 (i:=i) (List.nodup_cons.mp nd).2 (by simpa using h1) (by simpa using h2) hk
def q8(N:List Str)(vs:List V):St:=vs.map some++bE (N.length - vs.length) none
noncomputable def Bx(CX:AV)(P:bQ)(w:cF)(K:bA)(mg:Str->Option aH)(base:Heap)(N:List Str)(qual:Str)(scope:gI)(f:Addr)(cd:aH)(A:cS)(outer:List Env)(s:aN)(H:Hp)(E:XK):Cx where
 prog:=P
 w:=w
 K:=K
 mg:=mg
 base:=base
 A:=A.deeper (nV qual scope s.heap.objs.size f cd)
 N:=N
 s₀:=s
 H₀:=H
 env:=nV qual scope s.heap.objs.size f cd
 outer:=outer
 stack:=nV qual scope s.heap.objs.size f cd::outer
 ex:=[]
 calm:=true
 fn:=λx=>decide (x∉vg)
 pn:=[]
 xe:=λe s'=>aQ (bI P w) (A.deeper (nV qual scope s.heap.objs.size f cd)) (leaving (nV qual scope s.heap.objs.size f cd) e) (λ_ s''=>CX outer H s E e s'') (λe' s''=>CX outer H s E e' s'') s'
def Kk{sc:gI}(h:sc.names.lookup x=some .cell):∃c,(pP n sc.names []).lookup x=some c:=by
 have q:=PySem.W.cellsFrom_some sc.names n [] (.inl h);exact Option.isSome_iff_exists.mp q
def S9{CX:AV}{P:bQ}{w:cF}{K:bA}{mg:Str->Option aH}{base:Heap}{N ps:List Str}{qual:Str}{scope:gI}{f:Addr}{cd:aH}{A:cS}{outer:List Env}{s s1:aN}{H:Hp}{E:XK}{us:List aH}{vs:List V}
  (S:FnScope N ps scope)(hd:A.handled=none)(e0:Env0 P w K mg base A outer s H)(hl:vs.length=ps.length)(r:Vals vs us)
  (x:InCallC s s.heap.objs.size (bindL (nV qual scope s.heap.objs.size f cd).kindOf (ps.zip us) λ_=>none) (pP (s.heap.objs.size+1) scope.names []) (bindC (nV qual scope s.heap.objs.size f cd).kindOf (ps.zip us) λ_=>none) s1):
  Inv (Bx CX P w K mg base N qual scope f cd A outer s H E) [] (q8 N vs) H s1:=by
 have hpl:ps.length<=N.length:=by have:=congrArg iU S.pre;rw[fC]at this;lia
 obtain⟨h1,tk,rfl,hk⟩:=x.done;have noA:∀b:Addr,b∉(Bx CX P w K mg base N qual scope f cd A outer s H E).ex:=λb z=>absurd (show b∈([]:List Addr)from z) (by simp);refine⟨⟨e0.mod,S.kind,rfl,rfl,aR _,λy z c h1 h2=>?_,λy hy=>?_,λy c _ h=>?_,λ_=>hd,Around.frames_deeper e0.frames,.inr ⟨rfl,rfl⟩,λb z=>absurd z (noA b),e0.bs,e0.bsz,λb _ _=>noA b,λb z=>absurd z (noA b),e0.funs,e0.frf⟩,
  rfl,e0.bare,Un.kept hk,⟨_,x.toInCall.ns,λi y v h1 h2 h3=>?_⟩,λy c h=>⟨_,x.cell y c h⟩,e0.hok.fresh (aR _),λy c h=>?_,λp hp=>absurd (show p∈([]:List (Addr×Obj))from hp) (by simp),e0.hok.kept hk,?_⟩
 ·exact name_of_addr x.apart (gA h1) (gA h2)
 ·have hy:scope.names.lookup y=some .cell\/scope.names.lookup y=some .free:=hy;rcases hy with hy|hy
  ·exact Kk hy
  ·exact absurd rfl (S.nofree _ (gA hy))
 ·exact Nat.le_of_lt (x.above y c (gA h))
 ·have hi:i<vs.length:=by
   unfold q8 at h2
   by_cases hi:i<vs.length
   ·exact hi
   ·rw[dA (by simpa using hi)]at h2;rw[List.getElem?_replicate]at h2;split at h2<;>cases h2
  have ha:vs[i]?=some v:=by
   unfold q8 at h2;rw[cW (by simpa using hi),bN]at h2;cases e:vs[i]? with
   |none=>rw[e]at h2;cases h2
   |some a=>rw[e]at h2;cases h2;rfl
  obtain⟨u,hu,rv⟩:=r.get ha;have hp:ps[i]?=some y:=by
   rw[<-S.pre,List.getElem?_take_of_lt (by lia)];exact h1
  have ndP:ps.Nodup:=by rw[<-S.pre];exact S.nd.sublist (List.take_sublist _ _)
  refine⟨u,rv,?_⟩;rcases S.par y (bY hp)with k|k
  ·exact .inl ⟨k,Ga ndP hp hu k⟩
  ·obtain⟨c,e⟩:=Kk (n:=s.heap.objs.size+1) k;refine .inr ⟨.inl k,c,e,?_⟩;have q:=x.cell y c e;rw[F8 ndP hp hu (by show scope.names.lookup y≠_;rw[k];decide)]at q;exact q
 ·exact .inl (e0.hok.fresh (Nat.le_of_lt (x.above y c (gA h))))
 ·unfold q8;show _=N.length;rw[aU,aF,dQ]
  lia
def QS{CX:AV}{P:bQ}{w:cF}{K:bA}{mg:Str->Option aH}{base:Heap}{k:Nat}{f:Addr}{name qual:Str}{params:Arguments}{body:List Stmt}{scope:gI}{dV kV doc pm cdv ct oc:aH}{an od:Option Addr}
  {osl:Array (Option aH)} {N ps:List Str} {sp:Sp} (lk:K.lookup f=some ⟨oc,od,.func (eY name qual params body scope dV kV doc pm an cdv ct),osl⟩) (hcd:iQ K cdv qual=true) (S:FnScope N ps scope)
  (len:∀vs H Q E,sp vs H Q E->vs.length=ps.length)
  (hbody:∀(A:cS)(outer:List Env)(s:aN)(H:Hp)(vs:List V)(Q:VK)(E:XK),Room k (A.deeper (nV qual scope s.heap.objs.size f cdv))->sp vs H Q E->
   ∃t,PSs (Bx CX P w K mg base N qual scope f cdv A outer s H E) body t/\t {nx:=λ_ H'=>Q .non H',rt:=Q} (q8 N vs) H):
  FnOk P w K mg base CX (k+1) f (eY name qual params body scope dV kV doc pm an cdv ct) ps sp:=by
 refine⟨len,λA outer s H args us vs Q E hr e0 hb r hsp=>?_⟩;have hl:=len _ _ _ _ hsp;have KX:K.In s.heap:=e0.mod.kin.keeps λb o e=>(e0.bs b o e).1;have lim:s.heap.NoLimit:=e0.mod.nolimit.keeps λb o e=>(e0.bs b o e).1;have hkind:∀y∈ps.zip us,scope.names.lookup y.1=some .local\/(scope.names.lookup y.1=some .cell/\((pP (s.heap.objs.size+1) scope.names []).lookup y.1).isSome=true):=λ⟨n,v⟩ hy=>by
  rcases S.par n (oW hy).1 with q|q
  ·exact .inl q
  ·exact .inr ⟨q,PySem.W.cellsFrom_some _ _ _ (.inl q)⟩
 refine codeAny_call_function hr.depth (KX _ _ lk) rfl S.co S.gen rfl (PySem.W.codeRec_of KX hcd) (hb _ _ _ _ ?_);refine wpAny_newFunctionEnv_cells S.kind hkind λenv he s1 x=>?_;subst he;refine⟨lim.keeps x.toInCall.keep,codeAny_func ?_⟩;obtain⟨t,ht,hq⟩:=hbody A outer s H vs Q E (hr.deeper _) hsp;have I:Inv (Bx CX P w K mg base N qual scope f cdv A outer s H E) [] (q8 N vs) H s1:=S9 S hr.hd e0 hl r x;refine cK (ht [] s1 (q8 N vs) H _ I hq) (λfl s' hs=>?_) λe s' hs=>hs;have fin:∀{σ':St}{H':Hp}{v:V}{u:aH},Inv (Bx CX P w K mg base N qual scope f cdv A outer s H E) [] σ' H' s'->RelV v u->Q v H'->CE outer P w H s Q u s':=
  λ{σ' H' v u} J rv q=>⟨v,H',J.os,J.bare,J.base,J.hok,rv,q⟩
 cases fl with
 |ret u=>
  obtain⟨v,σ',H',J,rv,q⟩:=hs;exact fin J rv q
 |next=>
  obtain⟨σ',H',J,q⟩:=hs;exact fin (v:=V.non) (u:=bU) J rfl q
 |brk=>
  obtain⟨_,_,_,q⟩:=hs;exact iY q
 |cont=>
  obtain⟨_,_,_,q⟩:=hs;exact iY q
end L2
namespace L2
open PySem PySem.Spec PyProof.Rows
section
variable{X:Cx}{x:Str}{p pos:Pos}{e:Expr}{es:List Expr}{t:TA}{id T:String}{r:List V->Hp->VK->Prop}
def UQ(r:List V->Hp->VK->Prop)(t:TA):TE:=λU H Q=>t U H λvs H1=>r vs H1 Q
def n9(hc:CallR X (.builtin id) r)(hg:Gl X x)(hm:X.mg x=none)(hv:gE x=some (.builtin id))(ha:PA X (e::es) t)(hn:x≠"__name__":=by decide)(hdb:(x==("__debug__":Str))=false:=by decide)
  (he:bF (e::es) X.env=(false,eval e X.env)::bF es X.env:=by rfl)(hpl:(fG pos (bF es X.env)).any (·.1)=false:=by rfl):PE X (.Call (.Name x p) (e::es) [] pos) (UQ r t):=by
 intro pins s U H Q I h;refine gR (xg I hg hm hv ?_ hn hdb);exact PyProof.Rows.callWith_builtin1 (jh (ha pos pins s U H _ I h) λus s1 ⟨vs,H1,I1,r1,q1⟩=>hc pins s1 U H1 vs us Q I1 r1 q1) he hpl
def m5(hc:CallR X (.type T) r)(hg:Gl X x)(hm:X.mg x=none)(hv:gE x=some (.type T))(ha:PA X (e::es) t)(hn:x≠"__name__":=by decide)(hdb:(x==("__debug__":Str))=false:=by decide)
  (he:bF (e::es) X.env=(false,eval e X.env)::bF es X.env:=by rfl)(hpl:(fG pos (bF es X.env)).any (·.1)=false:=by rfl):PE X (.Call (.Name x p) (e::es) [] pos) (UQ r t):=by
 intro pins s U H Q I h;refine gR (xg I hg hm hv ?_ hn hdb);exact gF (jh (ha pos pins s U H _ I h) λus s1 ⟨vs,H1,I1,r1,q1⟩=>hc pins s1 U H1 vs us Q I1 r1 q1) he hpl
end
end L2
namespace HT
open PySem PyProof.Rows
section
variable{prog:bQ}{w:cF}{A:cS}{E:aH->aN->Prop}{s:aN}
def AG{vs ws:List aH}(ht:jN s.heap t vs.toArray)(hb:jN s.heap b ws.toArray)(hv:vs≠[])
  (h1:ws=[]->Q (.ref t) s)(h2:ws≠[]->Q (.ref s.heap.objs.size) {s with heap:=s.heap.push {cls:=.type "tuple",data:=.seq (vs++ws).toArray}})
  (hsz:vs.length+ws.length<=aM):aQ (bI prog w) A (iO .Add (.ref t) (.ref b)) Q E s:=by
 obtain⟨⟨cls,dd,data,sl⟩,ho,hc,n,hd⟩:=id ht;obtain⟨⟨cls2,dd2,data2,sl2⟩,ho2,hc2,n2,hd2⟩:=id hb;simp only at hc hd hc2 hd2;subst hc hd hc2 hd2;have e:vs.toArray++ws.toArray=(vs++ws).toArray:=by simp
 by_cases hw:ws=[]
 ·exact oP ⟨_,ho,rfl⟩ ⟨_,ho2,rfl⟩ oD seq_tuple_add lH lB (kS _ _)
   (tuple_addW1 t b vs.toArray ws.toArray n n2 dd dd2 sl sl2 (by simpa using hv) (by simp[hw])) ⟨ho,ho2,h1 hw⟩
 ·refine oP ⟨_,ho,rfl⟩ ⟨_,ho2,rfl⟩ oD seq_tuple_add lH lB (kS _ _)
   (tuple_addW2 t b vs.toArray ws.toArray n n2 dd dd2 sl sl2 (by simpa using hv) (by simpa using hw) (by rw[bL,bL];exact hsz)) ⟨ho,ho2,?_⟩
  rw[e];exact h2 hw
def jn(n d:Nat):Option Int->Nat
 |none=>d
 |some v=>if v<0 then(v+(n:Int)).toNat else min v.toNat n
def Em(n d:Nat):jn n d none=d:=rfl
def Jq(n d k:Nat):jn n d (some (k:Int))=min k n:=by
 show(if(k:Int)<0 then((k:Int)+(n:Int)).toNat else min (k:Int).toNat n)=min k n;rw[aK (by lia),dY]
def MC(n d:Nat)(hd:d<=n)(o:Option Int):jn n d o<=n:=by
 cases o with
 |none=>exact hd
 |some v=>
  show(if v<0 then(v+(n:Int)).toNat else min v.toNat n)<=n
  by_cases hv:v<0
  ·rw[aJ hv];lia
  ·rw[aK hv];exact Nat.min_le_right _ _
def P9(v:Int)(n d:Nat):(if v<0 then max (v+(n:Int)) 0 else min v (n:Int))=((jn n d (some v):Nat):Int):=by
 show(if v<0 then max (v+(n:Int)) 0 else min v (n:Int))=(((if v<0 then(v+(n:Int)).toNat else min v.toNat n):Nat):Int)
 by_cases hv:v<0
 ·simp only[aJ hv];lia
 ·simp only[aK hv];lia
def M9(lo hi:Option Int)(n:Nat):kL lo hi 1 (n:Int)=(((jn n 0 lo:Nat):Int),((jn n n hi:Nat):Int)):=by
 have h1:¬((1:Int)<0):=by lia
 unfold kL;simp only[h1,if_false];refine Prod.ext ?_ ?_
 ·cases lo with
  |none=>rfl
  |some v=>exact P9 v n 0
 ·cases hi with
  |none=>rfl
  |some v=>exact P9 v n n
def Ou(i j:Nat):gU (i:Int) (j:Int) 1=j - i:=by
 unfold gU;have h1:(1:Int)>0:=by lia
 simp only[h1,if_true,Int.ediv_one];split<;>lia
def Ey(p:oQ v o)(h:Q o s):aQ (bI prog w) A (Builtin.Slice.slicePartIndex v) Q E s:=by
 cases p with
 |none=>exact slicePart_none h
 |int i t=>exact slicePart_int h
def qz{sl:Addr}{vl vu:aH}{lo hi:Option Int}{n:Nat}{Q:Int×Int×Nat->aN->Prop}(hs:s.heap.IsSliceOf sl vl vu .none)(pl:oQ vl lo)(pu:oQ vu hi)
  (h:Q (((jn n 0 lo:Nat):Int),1,jn n n hi - jn n 0 lo) s):aQ (bI prog w) A (Builtin.Slice.sliceApplied (.ref sl) (pure (n:Int))) Q E s:=by
 obtain⟨os,hos,hcs,hds⟩:=id hs;unfold Builtin.Slice.sliceApplied Builtin.Slice.sliceFields;refine aA (aA (cQ hos hds (x:=vl) rfl (aA (cQ hos hds (x:=vu) rfl (aA (cQ hos hds (x:=.none) rfl (aB ?_)))))));refine aA (slicePart_none ?_);show aQ _ _ (if((1:Int)==0)=true then _ else _) _ _ s;rw[aK (by decide)];refine aA (Ey pl (aA (Ey pu (aA (aB ?_)))));show aQ _ _ (match kL lo hi 1 (n:Int)with|(lo,hi)=>pure (lo,(1:Int),gU lo hi 1)) _ _ s;rw[M9 lo hi n];show aQ _ _ (pure (((jn n 0 lo:Nat):Int),(1:Int),gU ((jn n 0 lo:Nat):Int) ((jn n n hi:Nat):Int) 1)) _ _ s;rw[Ou];exact aB h
def X9(xs:Array aH)(i k:Nat):((bT k).filterMap λ(m:Nat)=>xs[((i:Int)+(m:Int) * 1).toNat]?).toArray=((xs.toList.drop i).take k).toArray:=by
 have e:(λ(m:Nat)=>xs[((i:Int)+(m:Int) * 1).toNat]?)=λm=>xs[i+m]?:=by
  funext m
  have:((i:Int)+(m:Int) * 1).toNat=i+m:=by lia
  rw[this]
 rw[e];have:=pick_run xs i k;rw[List.filterMap_map]at this;have e2:((λx=>xs[x]?) ∘ λx=>i+x)=λm=>xs[i+m]?:=rfl;rw[e2]at this;rw[this]
def ye{t sl:Addr}{items:Array aH}{vl vu:aH}{lo hi:Option Int}{Q:aH->aN->Prop}(ht:jN s.heap t items)(hs:s.heap.IsSliceOf sl vl vu .none)(pl:oQ vl lo)(pu:oQ vu hi)
  (hw:¬(jn items.size 0 lo=0/\jn items.size items.size hi=items.size))
  (h:Q (.ref s.heap.objs.size) {s with heap:=s.heap.push {cls:=.type "tuple",data:=.seq ((items.toList.drop (jn items.size 0 lo)).take (jn items.size items.size hi - jn items.size 0 lo)).toArray}})
  (hsz:items.size<=aM):aQ (bI prog w) A (oR (.ref t) (.ref sl)) Q E s:=by
 have htake:sizeOk (.seq ((items.toList.drop (jn items.size 0 lo)).take (jn items.size items.size hi - jn items.size 0 lo)).toArray):=by
  show((items.toList.drop (jn items.size 0 lo)).take (jn items.size items.size hi - jn items.size 0 lo)).toArray.size<=aM;rw[bL,fC,dR,bB]
  lia
 have hj:jn items.size items.size hi<=items.size:=MC _ _ (aR _) hi;obtain⟨os,hos,hcs,hds⟩:=id hs;have hTs:s.TypeIs (.ref sl) "slice":=⟨os,hos,hcs⟩;unfold oR
 try with_reducible refine dO ?_
 first|refine aA (aB ?_)|skip
 refine aA (wpAny_sequenceKey ht.typeIs (by decide) ?_);refine aA (cA (name:=dJ "__getitem__") ht.typeIs fL
  (bW fL ht.typeIs entry_tuple_getitem ?_ (args_tuple_getitem _ _)))
 show aQ _ _ (jV (.ref t)>>=_) _ _ s;refine aA (tupleItemsOf_ ht ?_);refine aA (hV hTs ?_);rw[aJ (by decide)];refine aA (qz hs pl pu ?_);have hno:¬((((jn items.size 0 lo:Nat):Int)==0 && (1:Int)==1 && (jn items.size items.size hi - jn items.size 0 lo)==items.size)=true):=by
  intro q;rw[aO,aO]at q;have q1:((jn items.size 0 lo:Nat):Int)=0:=eq_of_beq q.1.1;have q2:jn items.size items.size hi - jn items.size 0 lo=items.size:=eq_of_beq q.2;exact hw ⟨by lia,by lia⟩
 show aQ _ _ (if(((jn items.size 0 lo:Nat):Int)==0 && (1:Int)==1 && (jn items.size items.size hi - jn items.size 0 lo)==items.size)=true then _ else _) _ _ s;rw[aK hno,X9]
 first
  |exact aA (m:=iH _) (cD (aB ⟨_,rfl,aB h⟩) htake)
  |exact aA (m:=iH _) (cD (aA (aB (aB ⟨_,rfl,aB h⟩))) htake)
  |exact aA (aA (m:=iH _) (cD (aB (aB ⟨_,rfl,aB h⟩)) htake))
  |exact aA (aA (m:=iH _) (cD (aB ⟨_,rfl,aB h⟩) htake))
end
end HT
namespace L2
open PySem PySem.Spec PyProof.Rows
abbrev TO:=St->Hp->(Option Int->Hp->Prop)->Prop
def PO(X:Cx)(e:Option Expr)(t:TO):Prop:=
 ∀(pins:List (Addr×Obj))(s:aN)(U:St)(H:Hp)(Q:Option Int->Hp->Prop),Inv X pins U H s->t U H Q->
  aQ (bI X.prog X.w) X.A (evalPart e X.env) (λu s'=>∃o H',Inv X pins U H' s'/\oQ u o/\Q o H') X.xe s
def FA:TO:=λ_ H Q=>Q none H
def SK(t:TE):TO:=λU H Q=>t U H λx H1=>∃i,x=.int i/\Q (some i) H1
section
variable{X:Cx}{e:Expr}{te:TE}{lo hi:Option Expr}{tl th:TO}{pos p2:Pos}
def EZ:PO X none FA:=by
 intro pins s U H Q I h;rw[evalPart_none];exact aB ⟨none,H,I,.none,h⟩
def EY(h:PE X e te):PO X (some e) (SK te):=by
 intro pins s U H Q I hw;rw[evalPart_some];refine jh (h pins s U H _ I hw) λu s1 ⟨x,H1,I1,r1,q1⟩=>?_;obtain⟨i,rfl,q⟩:=q1;obtain⟨t,rfl⟩:=r1;exact⟨some i,H1,I1,.int i t,q⟩
def SlR(X:Cx)(r:V->Option Int->Option Int->Hp->VK->Prop):Prop:=
 ∀(pins:List (Addr×Obj))(s:aN)(U:St)(H:Hp)(x:V)(v vl vu:aH)(lo hi:Option Int)(sl:Addr)(Q:VK),Inv X pins U H s->RelV x v->s.heap.IsSliceOf sl vl vu .none->oQ vl lo->oQ vu hi->r x lo hi H Q->
  ∃T id,typeLookup (.type T) "__getitem__"=pure (some (.builtin id))/\s.TypeIs v T/\aQ (bI X.prog X.w) X.A (oR v (.ref sl)) (EP X pins U Q) X.xe s
def SlR.or(h:SlR X r)(h':SlR X r'):SlR X (λx lo hi H Q=>r x lo hi H Q\/r' x lo hi H Q):=by
 intro pins s U H x v vl vu lo hi sl Q I rx hs pl pu q;rcases q with q|q
 ·exact h pins s U H x v vl vu lo hi sl Q I rx hs pl pu q
 ·exact h' pins s U H x v vl vu lo hi sl Q I rx hs pl pu q
def ZI(r:V->Option Int->Option Int->Hp->VK->Prop)(te:TE)(tl th:TO):TE:=λU H Q=>te U H λx H1=>tl U H1 λl H2=>th U H2 λu H3=>r x l u H3 Q
def X5(hr:SlR X r)(he:PE X e te)(hl:PO X lo tl)(hu:PO X hi th):PE X (.Subscript e (.Slice lo hi none p2) pos) (ZI r te tl th):=by
 intro pins s U H Q I h;refine Subscript_ (jh (he pins s U H _ I h) λv s1 ⟨x,H1,I1,r1,q1⟩=>?_);refine wpAny_Slice (jh (hl pins s1 U H1 _ I1 q1) λvl s2 ⟨l,H2,I2,pl,q2⟩=>jh (hu pins s2 U H2 _ I2 q2) λvu s3 ⟨u,H3,I3,pu,q3⟩=>?_);rw[evalPart_none];refine aB ?_;have I4:Inv X pins U H3 {s3 with heap:=s3.heap.push {cls:=.type "slice",data:=.fields #[vl,vu,.none]}}:=I3.kept (t':=s3.toks) λb ob q=>aC _ q;obtain⟨T,id,hT,ht,hg⟩:=hr pins {s3 with heap:=s3.heap.push {cls:=.type "slice",data:=.fields #[vl,vu,.none]}} U H3 x v vl vu l u s3.heap.objs.size Q I4 r1 (Heap.IsSliceOf.new ..) pl pu q3;show aQ (bI X.prog X.w) X.A (subscriptTail e (.Slice lo hi none p2) v (.ref s3.heap.objs.size)) (EP X pins U Q) X.xe {s3 with heap:=s3.heap.push {cls:=.type "slice",data:=.fields #[vl,vu,.none]}};exact tail_any (ops:=[.ref s3.heap.objs.size,v]) ht hT hg (by with_unfolding_all rfl)
def Bw(xs:List V)(lo hi:Option Int):List V:=(xs.drop (HT.jn xs.length 0 lo)).take (HT.jn xs.length xs.length hi - HT.jn xs.length 0 lo)
def A5(xs:List V)(lo hi:Option Int):(Bw xs lo hi).length<=xs.length:=by
 unfold Bw;rw[fC,dR]
 lia
def XQ(K:bA):V->Option Int->Option Int->Hp->VK->Prop:=λx lo hi H Q=>∃a xs,x=.ref a/\SqT K H a xs/\
 ¬(HT.jn xs.length 0 lo=0/\HT.jn xs.length xs.length hi=xs.length)/\∀p,H p=none->Q (.ref p) (upd H p (.tup (Bw xs lo hi)))
def NS:SlR X (XQ X.K):=by
 intro pins s U H x v vl vu lo hi sl Q I rx hs pl pu h;obtain⟨a,xs,rfl,hx,hw,q⟩:=h;cases rx;obtain⟨its,r,ht,hz⟩:=I.tuple hx;have hlen:its.toArray.size=xs.length:=by rw[bL];exact r.length.symm
 refine⟨"tuple",_,PyProof.Rows.slot_tuple_getitem.lookup,ht.typeIs,?_⟩;refine HT.ye ht hs pl pu (by rw[hlen];exact hw) ?_ (by rw[hlen];exact hz);rw[hlen];refine⟨.ref s.heap.objs.size,_,I.laid (t':=s.toks) (o:=.tup (Bw xs lo hi)) (λb ob q=>aC _ q) (aR _) ?_,rfl,q _ (I.hok.fresh (aR _))⟩;exact⟨cM (A5 xs lo hi) hz,_,(r.drop (HT.jn xs.length 0 lo)).take (HT.jn xs.length xs.length hi - HT.jn xs.length 0 lo),IsTup.new _ _⟩
def RH(K:bA):R2:=λx y H Q=>∃a b xs ys,x=.ref a/\y=.ref b/\SqT K H a xs/\SqT K H b ys/\xs≠[]/\xs.length+ys.length<=aM/\
 (ys=[]->Q (.ref a) H)/\(ys≠[]->∀p,H p=none->Q (.ref p) (upd H p (.tup (xs++ys))))
def Vals.nil_iff(r:Vals xs us):us=[]↔xs=[]:=by
 cases r with
 |nil=>simp
 |cons _ _=>simp
def DS:OpR X (iO .Add) (RH X.K):=by
 intro pins s U H x y v u Q I rx ry h;obtain⟨a,b,xs,ys,rfl,rfl,ha,hb,hx,hz,q1,q2⟩:=h;cases rx;cases ry;obtain⟨its,r1,p1,_⟩:=I.tuple ha;obtain⟨its2,r2,p2,_⟩:=I.tuple hb;refine HT.AG p1 p2 (λz=>hx (r1.nil_iff.mp z)) (λz=>⟨.ref a,H,I,rfl,q1 (r2.nil_iff.mp z)⟩) (λz=>?_) (by rw[<-r1.length,<-r2.length];exact hz);refine⟨.ref s.heap.objs.size,_,I.laid (t':=s.toks) (o:=.tup (xs++ys)) (λb ob q=>aC _ q) (aR _) ?_,rfl,q2 (λw=>z (r2.nil_iff.mpr w)) _ (I.hok.fresh (aR _))⟩;exact⟨by rw[aU];exact hz,_,r1.append r2,IsTup.new _ _⟩
end
end L2
namespace L2
open PySem PySem.Spec PyProof.Rows
def U1(n:Nat)(i:Int):Option Nat:=if 0<=i then(if i<n then some i.toNat else none)else if -(n:Int)<=i then some (i+n).toNat else none
def atI(xs:List α)(i:Int):Option α:=(U1 xs.length i).bind λj=>xs[j]?
def BD(h:U1 n i=some j):seqIndex? i n=some j/\j<n/\-(n:Int)<=i/\i<n:=by
 unfold U1 at h
 by_cases h0:0<=i
 ·rw[aJ h0]at h
  by_cases h1:i<n
  ·rw[aJ h1]at h;have e:i.toNat=j:=bM h;exact⟨by rw[seqIndex_of h0 h1,e],by lia,by lia,h1⟩
  ·rw[aK h1]at h;cases h
 ·rw[aK h0]at h
  by_cases h1:-(n:Int)<=i
  ·rw[aJ h1]at h;have e:(i+n).toNat=j:=bM h;exact⟨by rw[seqIndex_neg (by lia) h1,e],by lia,h1,by lia⟩
  ·rw[aK h1]at h;cases h
def H8{xs:List α}(h:atI xs i=some v):∃j,seqIndex? i xs.length=some j/\xs[j]?=some v/\j<xs.length/\-(xs.length:Int)<=i/\i<xs.length:=by
 unfold atI at h;cases e:U1 xs.length i with
 |none=>rw[e]at h;cases h
 |some j=>
  rw[e]at h;obtain⟨h1,h2,h3,h4⟩:=BD e;exact⟨j,h1,h,h2,h3,h4⟩
def xu{α:Type}{xs:List α}{j:Nat}{v:α}(h:xs[j]?=some v):atI xs (j:Int)=some v:=by
 have hj:j<xs.length:=(List.getElem?_eq_some_iff.mp h).1;have e:U1 xs.length (j:Int)=some j:=by
  unfold U1;rw[aJ (by lia),aJ (by lia)];simp
 unfold atI;rw[e];exact h
def Hx(b:Expr):Prop:=∀o i,subscripted b false o i=operate [o,i] (oR o i)
def IxR(X:Cx)(r:R2):Prop:=
 ∀(value slice:Expr)(pins:List (Addr×Obj))(s:aN)(U:St)(H:Hp)(x y:V)(v u:aH)(Q:VK),Inv X pins U H s->RelV x v->RelV y u->r x y H Q->
  subscripted slice false v u=operate [v,u] (oR v u)->aQ (bI X.prog X.w) X.A (subscriptTail value slice v u) (EP X pins U Q) X.xe s
def WQ(X:Cx)(id:String)(r:V->List V->Hp->VK->Prop):Prop:=
 ∀(pins:List (Addr×Obj))(s:aN)(U:St)(H:Hp)(x:V)(xs:List V)(v:aH)(us:List aH)(Q:VK),Inv X pins U H s->RelV x v->Vals xs us->r x xs H Q->
  aQ (bI X.prog X.w) X.A (call (.builtin id) (v::us)) (EP X pins U Q) X.xe s
section
variable{X:Cx}{a b:Expr}{ta tb:TE}{pos:Pos}
def IxR.or(h:IxR X r)(h':IxR X r'):IxR X (λx y H Q=>r x y H Q\/r' x y H Q):=by
 intro value slice pins s U H x y v u Q I rx ry q hs;rcases q with q|q
 ·exact h value slice pins s U H x y v u Q I rx ry q hs
 ·exact h' value slice pins s U H x y v u Q I rx ry q hs
def RW{r:R2}(hr:IxR X r)(ha:PE X a ta)(hb:PE X b tb)(hs:Hx b):PE X (.Subscript a b pos) (SL r ta tb):=by
 intro pins s U H Q I h;exact Subscript_ (JW ha hb I h λv u s2 x y H2 I2 rx ry q=>hr a b pins s2 U H2 x y v u Q I2 rx ry q (hs _ _))
def RE(K:bA):R2:=λx y H Q=>∃p xs i v,x=.ref p/\y=.int i/\SqL K H p xs/\atI xs i=some v/\Q v H
def RC(K:bA):R2:=λx y H Q=>∃p xs i v,x=.ref p/\y=.int i/\SqT K H p xs/\atI xs i=some v/\Q v H
def RD:R2:=λx y H Q=>∃z i c,x=.str z/\y=.int i/\z.length<=aM/\atI z.cps.toList i=some c/\Q (.str ⟨#[c]⟩) H
def I9:IxR X (RE X.K):=by
 intro value slice pins s U H x y v u Q I rx ry h hs;obtain⟨p,xs,i,z,rfl,rfl,hq,he,q⟩:=h;cases rx;obtain⟨t,rfl⟩:=ry;obtain⟨its,r,pl,hz⟩:=I.list hq;obtain⟨j,h1,h2,h3,h4,h5⟩:=H8 he;obtain⟨w,ew,rw'⟩:=r.get h2;have hl:=r.length;have hn:=Dy;have fin:EP X pins U Q w s:=⟨z,H,I,rw',q⟩
 by_cases h0:0<=i
 ·have hj:i.toNat=j:=by
   rw[seqIndex_of h0 h5]at h1;exact bM h1
  exact item_listR pl.isList h0 (by lia) (by rw[hj];simpa using ew) fin hs
 ·have hj:(i+(its.toArray.size:Int)).toNat=j:=by
   rw[seqIndex_neg (by lia) h4]at h1;rw[bL,<-hl];exact bM h1
  exact subscriptTail_builtinR (x:=w) pl.isList.typeIs slot_list_getitem.lookup
   (wpAny_getItem_list_neg (Q:=λr s'=>r=w/\EP X pins U Q r s') pl.isList (by lia) (by rw[bL]<;>lia) (by lia) (by rw[hj];simpa using ew) ⟨rfl,fin⟩) hs
def JA:IxR X (RC X.K):=by
 intro value slice pins s U H x y v u Q I rx ry h hs;obtain⟨p,xs,i,z,rfl,rfl,hq,he,q⟩:=h;cases rx;obtain⟨t,rfl⟩:=ry;obtain⟨its,r,pl,hz⟩:=I.tuple hq;obtain⟨j,h1,h2,h3,h4,h5⟩:=H8 he;obtain⟨w,ew,rw'⟩:=r.get h2;have hl:=r.length;have hn:=Dy;have fin:EP X pins U Q w s:=⟨z,H,I,rw',q⟩;exact subscriptTail_builtinR (x:=w) pl.typeIs slot_tuple_getitem.lookup
  (getItem_tuple (j:=j) (Q:=λr s'=>r=w/\EP X pins U Q r s') pl (by lia) (by lia) (by rw[bL,<-hl];exact h1) (by simpa using ew) ⟨rfl,fin⟩) hs
def JB:IxR X RD:=by
 intro value slice pins s U H x y v u Q I rx ry h hs;obtain⟨z,i,c,rfl,rfl,hz,he,q⟩:=h;obtain⟨t,rfl⟩:=rx;obtain⟨t',rfl⟩:=ry;obtain⟨j,h1,h2,h3,h4,h5⟩:=H8 he;have hl:z.cps.toList.length=z.length:=by simp[Str.length]
 rw[hl]at h1 h4 h5;have hn:=Dy;exact tail_any (typeIs_str s z t) slot_str_getitem.lookup (getItem_str (c:=c) (by
  have e1:decide (i< -(2 ^ 63:Int))=false:=decide_eq_false (by lia);have e2:decide (i>=2 ^ 63)=false:=decide_eq_false (by lia);rw[e1,e2,Bool.or_false]) (by rw[h1];simpa using h2) ⟨.str ⟨#[c]⟩,H,I.tok _,⟨_,rfl⟩,q⟩) hs
def YK(K:bA):R2:=λx y H Q=>RE K x y H Q\/RC K x y H Q\/RD x y H Q
def JC:IxR X (YK X.K):=I9.or (JA.or JB)
def Jt(lo hi:Option Int)(n:Nat):(lC lo hi none n).1=((HT.jn n 0 lo:Nat):Int)/\(lC lo hi none n).2.1=((HT.jn n n hi:Nat):Int)/\(lC lo hi none n).2.2=1:=by
 refine⟨?_,?_,rfl⟩
 ·cases lo with
  |none=>simp[lC,HT.jn]
  |some i=>
   simp only[lC,HT.jn,Option.getD_none,show(1:Int)>0 by decide,if_true]
   by_cases h:i<0
   ·simp only[h,if_true]<;>lia
   ·simp only[h,if_false]<;>lia
 ·cases hi with
  |none=>simp[lC,HT.jn]
  |some i=>
   simp only[lC,HT.jn,Option.getD_none,show(1:Int)>0 by decide,if_true]
   by_cases h:i<0
   ·simp only[h,if_true]<;>lia
   ·simp only[h,if_false]<;>lia
def Fw(its:List aH)(lo hi:Option Int):slicePick its.toArray lo hi none=((its.drop (HT.jn its.length 0 lo)).take (HT.jn its.length its.length hi - HT.jn its.length 0 lo)).toArray:=by
 obtain⟨h1,h2,h3⟩:=Jt lo hi its.toArray.size;unfold slicePick;rw[h1,h2,h3];simp only[sliceRange_one,pick_run,bL]<;>rfl
def XR(K:bA):V->Option Int->Option Int->Hp->VK->Prop:=λx lo hi H Q=>∃a xs,x=.ref a/\SqL K H a xs/\∀p,H p=none->Q (.ref p) (upd H p (.lst (Bw xs lo hi)))
def FI:SlR X (XR X.K):=by
 intro pins s U H x v vl vu lo hi sl Q I rx hs pl pu h;obtain⟨a,xs,rfl,hx,q⟩:=h;cases rx;obtain⟨its,r,ht,hz⟩:=I.list hx;have hlen:=r.length;refine⟨"list",_,slot_list_getitem.lookup,ht.isList.typeIs,?_⟩;refine wpAny_getItem_list_slice ht.isList hs pl pu .none (by simp) ?_ (by rw[bL]<;>lia);rw[Fw,<-hlen];refine⟨.ref s.heap.objs.size,_,I.laid (t':=s.toks) (o:=.lst (Bw xs lo hi)) (λb ob q=>aC _ q) (aR _) ?_,rfl,q _ (I.hok.fresh (aR _))⟩;exact⟨cM (A5 xs lo hi) hz,_,0,(r.drop (HT.jn xs.length 0 lo)).take (HT.jn xs.length xs.length hi - HT.jn xs.length 0 lo),aT _ rfl⟩
def CallR.or(h:CallR X f r)(h':CallR X f r'):CallR X f (λxs H Q=>r xs H Q\/r' xs H Q):=by
 intro pins s U H xs us Q I rs q;rcases q with q|q
 ·exact h pins s U H xs us Q I rs q
 ·exact h' pins s U H xs us Q I rs q
def Ic:CallR X (.type "list") (λxs H Q=>∃p ys,xs=[.ref p]/\(SqL X.K H p ys\/SqT X.K H p ys)/\∀l,H l=none->Q (.ref l) (upd H l (.lst ys))):=by
 intro pins s U H xs us Q I r h;obtain⟨p,ys,rfl,hq,q⟩:=h;obtain⟨u,rfl,rx⟩:=mj r;cases rx;have fin:∀(its:List aH),Vals ys its->ys.length<=aM->∀(h':Heap)(c':Nat),(∀b o',s.heap.get? b=some o'->h'.get? b=some o')->
   h'.get? s.heap.objs.size=some {cls:=.type "list",dict:=none,data:=.seq its.toArray c',slots:=#[]}->EP X pins U Q (.ref s.heap.objs.size) {s with heap:=h'}:=λits r' hz h' c' kp e=>
  ⟨.ref s.heap.objs.size,_,I.laid (t':=s.toks) kp (aR _) (show ObjOk X.prog X.w _ h' _ (.lst ys)from⟨hz,its,c',r',e⟩),rfl,q _ (I.hok.fresh (aR _))⟩
 rcases hq with hq|hq
 ·obtain⟨its,r',pl,hz⟩:=I.list hq;have hlen:=r'.length;obtain⟨o,ho,hc,n,hd⟩:=pl.isList;exact call_list_seq p (.inl rfl) ho hc hd (λh' c' kp e=>fin its r' hz h' c' kp e) (by simp only[bL]<;>lia)
 ·obtain⟨its,r',pl,hz⟩:=I.tuple hq;have hlen:=r'.length;obtain⟨o,ho,hc,n,hd⟩:=pl;exact call_list_seq p (.inr rfl) ho hc hd (λh' c' kp e=>fin its r' hz h' c' kp e) (by simp only[bL]<;>lia)
def Fl:CallR X (.type "tuple") (λxs H Q=>∃p ys,xs=[.ref p]/\((SqL X.K H p ys/\∀l,H l=none->Q (.ref l) (upd H l (.tup ys)))\/(SqT X.K H p ys/\Q (.ref p) H))):=by
 intro pins s U H xs us Q I r h;obtain⟨p,ys,rfl,h⟩:=h;obtain⟨u,rfl,rx⟩:=mj r;cases rx;rcases h with ⟨hq,q⟩|⟨hq,q⟩
 ·obtain⟨its,r',pl,hz⟩:=I.list hq;have hlen:=r'.length;refine call_tuple_list pl.isList (λh' kp=>?_) (by simp only[bL]<;>lia);have I1:Inv X pins U H {s with heap:=h'}:=I.kept (t':=s.toks) kp;have I2:Inv X pins U (upd H h'.objs.size (.tup ys)) {s with heap:=h'.push {cls:=.type "tuple",data:=.seq its.toArray}}:=
   I1.laid (t':=s.toks) (λb o e=>aC _ e) (aR _) (show ObjOk X.prog X.w _ _ _ (.tup ys)from⟨hz,its,r',IsTup.new _ _⟩)
  exact⟨.ref h'.objs.size,_,I2,rfl,q _ (I1.hok.fresh (aR _))⟩
 ·obtain⟨its,r',pl,hz⟩:=I.tuple hq;exact call_tuple_same pl ⟨.ref p,H,I,rfl,q⟩
def YD(K:bA)(T:String)(x:V)(H:Hp):Prop:=match x with
 |.str _=>T="str"
 |.int _=>T="int"
 |.ref p=>(T="list"/\∃xs,SqL K H p xs)\/(T="tuple"/\∃o,K.lookup p=some o/\o.cls=.type "tuple"/\o.dict=none)\/
   (T="dict"/\((∃kvs,H p=some (.dK kvs))\/∃kvs,H p=some (.dT kvs)))\/(T="set"/\∃S n,H p=some (.set S n))
 |_=>False
def ND(I:Inv X pins U H s)(r:RelV x v)(ty:YD X.K T x H):
  s.TypeIs v T/\∀a,v=.ref a->∃ob,s.heap.get? a=some ob/\ob.dict=none:=by
 cases x with
 |str z=>
  obtain⟨t,rfl⟩:=r;cases (show T="str" from ty);exact⟨typeIs_str s z t,λ_ e=>nomatch e⟩
 |int i=>
  obtain⟨t,rfl⟩:=r;cases (show T="int" from ty);exact⟨typeIs_int s i t,λ_ e=>nomatch e⟩
 |ref p=>
  cases r;rcases ty with ⟨rfl,xs,hq⟩|⟨rfl,o,hk,hc,hd⟩|⟨rfl,hk⟩|⟨rfl,S,n,hk⟩
  ·obtain⟨its,_,pl,_⟩:=I.list hq;refine⟨pl.isList.typeIs,λa e=>?_⟩;cases e;obtain⟨o,n,e,c,hd,_⟩:=pl;exact⟨o,e,hd⟩
  ·refine⟨⟨o,I.kIn p o hk,hc⟩,λa e=>?_⟩;cases e;exact⟨o,I.kIn _ o hk,hd⟩
  ·have z:∃o,s.heap.get? p=some o/\o.ExactDict:=by
    rcases hk with ⟨kvs,hk⟩|⟨kvs,hk⟩
    ·obtain⟨_,_,_,_,o,_,_,e,ex,_⟩:=I.hok p _ hk;exact⟨o,e,ex⟩
    ·obtain⟨_,_,_,_,o,_,_,e,ex,_⟩:=I.hok p _ hk;exact⟨o,e,ex⟩
   obtain⟨o,e,ex⟩:=z;refine⟨⟨o,e,ex.1⟩,λa e2=>?_⟩;cases e2;exact⟨o,e,ex.2.1⟩
  ·obtain⟨o,_,_,_,e,ex,_⟩:=I.hok p _ hk;refine⟨⟨o,e,ex.1⟩,λa e2=>?_⟩;cases e2;exact⟨o,e,ex.2.1⟩
 |_=>exact iY ty
def ZO(K:bA)(T:String)(r:V->List V->Hp->VK->Prop)(to:TE)(t:TA):TE:=λU H Q=>to U H λx H1=>YD K T x H1/\t U H1 λxs H2=>r x xs H2 Q
variable{o e:Expr}{es:List Expr}{to:TE}{t:TA}{name:Str}{apos cpos:Pos}{T id:String}{r:V->List V->Hp->VK->Prop}
def Xz(pa:PlainAttrs T)(slot:Slot T name id)(hty:typeOf (.builtin id)=pure (.type "method_descriptor"))(hm:WQ X id r)(ho:PE X o to)(ha:PA X (e::es) t)
  (hbase:jJ o name X.env (eval o X.env)=eval o X.env:=by rfl)
  (hfew:((fG cpos (bF (e::es) X.env)).all (λx=> !x.1) && (oE cpos (lD [] X.env)).all (λx=>x.1.isSome)
   && decide ((e::es).length+([]:List iZ).length+(if([]:List iZ).isEmpty then 0 else 1)<30))=true:=by rfl)
  (hline:(apos.endLine==cpos.line)=true:=by rfl) (hs:bF (e::es) X.env=(false,eval e X.env)::bF es X.env:=by rfl) (hplain:(fG cpos (bF es X.env)).any (·.1)=false:=by rfl):
  PE X (.Call (.Attribute o name apos) (e::es) [] cpos) (ZO X.K T r to t):=by
 intro pins s U H Q I h;refine wpAny_Call_method_late hbase hfew hline rfl (jh (ho pins s U H _ I h) λv s1 ⟨x,H1,I1,r1,ty,q1⟩=>?_);obtain⟨h1,h2⟩:=ND I1 r1 ty;refine⟨T,id,pa,slot,hty,h1,h2,?_⟩;have hA:=ha cpos pins s1 U H1 _ I1 q1;rw[hs]at hA⊢;refine lI (by show(false||(fG cpos (bF es X.env)).any (·.1))=false;rw[hplain]<;>rfl) (jY ?_);exact jh hA λus s2 ⟨vs,H2,I2,r2,q2⟩=>hm pins s2 U H2 x vs v us Q I2 r1 r2 q2
end
end L2
namespace L2
open PySem PySem.Spec PyProof.Rows
def YR(X:Cx)(id:String)(r:V->List V->Hp->VK->Prop):Prop:=
 ∀(pins:List (Addr×Obj))(s:aN)(U:St)(H:Hp)(x:V)(xs:List V)(v:aH)(us:List aH)(Q:VK),Inv X pins U H s->RelV x v->Vals xs us->r x xs H Q->
  aQ (bI X.prog X.w) X.A (call (.builtin id) (v::us)) (EP X pins U Q) X.xe s
def Vals.one:∀{x:V}{us:List aH},Vals [x] us->∃u,us=[u]/\RelV x u
 |_,_,.cons r .nil=>⟨_,rfl,r⟩
section
variable{X:Cx}{pins:List (Addr×Obj)}{U:St}{H:Hp}{s:aN}{l b:Addr}{xs ys zs:List V}
def Inv.lset{its its':List aH}{n:Nat}{f:Array aH->Array aH}{t':Nat}(I:Inv X pins U H s)(hH:H l=some (.lst xs))
  (e:s.heap.get? l=some {cls:=.type "list",data:=.seq its.toArray n})(hf:f its.toArray=its'.toArray)(hv:Vals ys its')(hz:ys.length<=aM):
  Inv X pins U (upd H l (.lst ys)) {s with heap:=s.heap.update l (jZ f),toks:=t'}:=by
 have q:=PySem.IsL.update e f;rw[hf]at q;refine I.write (x:=l) (e:=l) (by rw[hH];exact trivial) (.inl rfl) (λb' u hb hu=>(cH s.heap (jZ f) (dX hb)).trans hu) ⟨_,q⟩ ?_;exact⟨hz,its',_,hv,q⟩
def Inv.lnew(I:Inv X pins U H s)(hv:Vals ys its)(hz:ys.length<=aM):
  Inv X pins U (upd H s.heap.objs.size (.lst ys)) {s with heap:=s.heap.push {cls:=.type "list",data:=.seq its.toArray},toks:=t'}:=
 I.laid (λ_ _ q=>aC _ q) (aR _) ⟨hz,its,0,hv,aT _ rfl⟩
theorem Inv.fresh(I:Inv X pins U H s):H s.heap.objs.size=none:=I.hok.fresh (aR _)
def Inv.lstM(I:Inv X pins U H s)(hH:H l=some (.lst xs)):xs.length<=aM/\∃(its:List aH) (n:Nat),Vals xs its/\xs.length=its.length/\s.heap.get? l=some {cls:=.type "list",data:=.seq its.toArray n}:=by
 obtain⟨z,its,n,r,e⟩:=I.hok l _ hH;exact⟨z,its,n,r,r.length,e⟩
def Xj(h:n<=aM):iI n=false:=by
 unfold iI;exact decide_eq_false (by lia)
end
section
variable{X:Cx}
def FX:V->List V->Hp->VK->Prop:=λx vs H Q=>∃l xs y,x=.ref l/\vs=[y]/\H l=some (.lst xs)/\xs.length<aM/\Q .non (upd H l (.lst (xs++[y])))
def G8:YR X "list.append" FX:=by
 intro pins s U H x vs v us Q I rx rv h;obtain⟨l,xs,y,rfl,rfl,hH,hz,q⟩:=h;cases rx;obtain⟨u,rfl,ru⟩:=rv.one;obtain⟨z,its,n,r,hl,e⟩:=I.lstM hH;refine call_meets F.slot_list_append ⟨_,e,rfl⟩ F.entry_list_append (F.args_list_append_2 _ _) (PySem.list_append l its.toArray n u (by rw[bL];lia)) ⟨e,?_⟩;refine⟨.non,_,I.lset (its':=its++[u]) hH e (by simp) (r.append (.cons ru .nil)) ?_,rfl,q⟩;rw[aU,List.length_singleton]
 lia
end
end L2
namespace L2
open PySem PySem.Spec PyProof.Rows
section
variable{κ:Type}[DecidableEq κ]
def me(kvs:List (κ×V))(k:κ):Option V:=(kvs.find? λkv=>decide (kv.1=k)).map (·.2)
noncomputable def ou(kvs:List (κ×V))(k:κ)(v:V):List (κ×V):=
 if(kvs.any λkv=>decide (kv.1=k))=true then kvs.map (λkv=>if kv.1=k then(kv.1,v)else kv)else kvs++[(k,v)]
def My:me ([]:List (κ×V)) k=none:=rfl
def uz{k:κ}(e:p.1=k):me (p::r) k=some p.2:=by simp[me,gY,e]
def oo{k:κ}(e:¬p.1=k):me (p::r) k=me r k:=by simp[me,gY,e]
theorem Mx(k:κ):∀kvs:List (κ×V),(kvs.any λkv=>decide (kv.1=k))=(me kvs k).isSome
 |[]=>rfl
 |p::r=>by
  rw[fQ]
  by_cases e:p.1=k
  ·simp only[uz e,decide_eq_true e,Bool.true_or,Option.isSome_some]
  ·rw[oo e,decide_eq_false e,Bool.false_or];exact Mx k r
def o5(kvs:List (κ×V))(k:κ)(v:V):(ou kvs k v).length<=kvs.length+1:=by
 unfold ou;split
 ·rw[aF];lia
 ·rw[aU,aL,eZ];lia
def RelO.isSome_eq{o:Option V}{u:Option aH}(r:RelO o u):o.isSome=u.isSome:=by
 cases o with
 |none=>cases u with
  |none=>rfl
  |some _=>exact(show False from r).elim
 |some _=>cases u with
  |none=>exact(show False from r).elim
  |some _=>rfl
theorem RelO.getD{o:Option V}{u:Option aH}(r:RelO o u)(rd:RelV d d'):RelV (o.getD d) (u.getD d'):=by
 cases o with
 |none=>cases u with
  |none=>exact rd
  |some _=>exact(show False from r).elim
 |some _=>cases u with
  |none=>exact(show False from r).elim
  |some _=>exact r
def KV.val(r:KV kvs vs)(k:κ):RelO (me kvs k) (pQ vs k):=by
 unfold KV at r;induction r with
 |nil=>exact jA
 |@cons p q ps qs h t ih=>
  obtain⟨h1,h2⟩:=h
  by_cases e:p.1=k
  ·have e':q.1=k:=h1.symm.trans e;have b:pQ (q::qs) k=some q.2:=by simp[pQ,gY,e']
   rw[uz e,b];exact h2
  ·have e':¬q.1=k:=λz=>e (h1.trans z);have b:pQ (q::qs) k=pQ qs k:=by simp[pQ,gY,e']
   rw[oo e,b];exact ih
theorem KV.any{kvs:List (κ×V)}{vs:List (κ×aH)}(r:KV kvs vs)(k:κ):(kvs.any λkv=>decide (kv.1=k))=vs.any λkv=>decide (kv.1=k):=by
 unfold KV at r;induction r with
 |nil=>rfl
 |cons h t ih=>rw[fQ,fQ,ih,h.1]
def KV.repl(r:KV kvs vs)(k:κ)(ry:RelV y u):
  KV (kvs.map λkv=>if kv.1=k then(kv.1,y)else kv) (vs.map λkv=>if kv.1=k then(kv.1,u)else kv):=by
 unfold KV at r⊢;induction r with
 |nil=>exact .nil
 |@cons p q ps qs h t ih=>
  rw[aG,aG];refine .cons ?_ ih;obtain⟨h1,h2⟩:=h
  by_cases e:p.1=k
  ·rw[aJ e,aJ (h1.symm.trans e)];exact⟨h1,ry⟩
  ·rw[aK e,aK (λz=>e (h1.trans z))];exact⟨h1,h2⟩
def KV.put(r:KV kvs vs)(k:κ)(ry:RelV y u):KV (ou kvs k y) (stored vs k u):=by
 unfold ou stored;rw[r.any k]
 by_cases e:(vs.any λkv=>decide (kv.1=k))=true
 ·rw[aJ e,aJ e];exact r.repl k ry
 ·rw[aK e,aK e];exact Paired.snoc r ⟨rfl,ry⟩
theorem KV.length{kvs:List (κ×V)}{vs:List (κ×aH)}(r:KV kvs vs):kvs.length=vs.length:=kQ r
end
def yh(r:RelV (kV k) u):(bb P w).is k u=true:=by
 cases k with
 |inl i=>obtain⟨t,e⟩:=(show∃t,u=gW i t from r);subst e;exact Ls P w i t
 |inr x=>obtain⟨t,e⟩:=(show∃t,u=pL x t from r);subst e;exact Lu P w x t
theorem Gs:∀{ks:List gi}{us:List aH},Vals (ks.map kV) us->ItemsAre (bb P w) ks us
 |[],_,r=>by rw[jB]at r;cases r;exact .nil
 |k::ks,_,r=>by
  rw[aG]at r;cases r with
  |cons h t=>exact .cons (yh h) (Gs t)
abbrev KT(H:Hp):List (bf×V)->List (bf×Addr×aH)->Prop:=Paired λp q=>p.1=q.1/\TkAt H p.1 q.2.1/\RelV p.2 q.2.2
def KT.val(r:KT H kvs xs)(k:bf):RelO (me kvs k) ((atKey xs k).map (·.2)):=by
 induction r with
 |nil=>exact jA
 |@cons p q ps qs h t ih=>
  obtain⟨h1,_,h2⟩:=h
  by_cases e:p.1=k
  ·have e':q.1=k:=h1.symm.trans e;have b:atKey (q::qs) k=some q.2:=by simp[atKey,gY,e']
   rw[uz e,b];exact h2
  ·have e':¬q.1=k:=λz=>e (h1.trans z);have b:atKey (q::qs) k=atKey qs k:=by simp[atKey,gY,e']
   rw[oo e,b];exact ih
def KT.repl(r:KT H kvs xs)(k:bf)(ry:RelV y u):
  KT H (kvs.map λkv=>if kv.1=k then(kv.1,y)else kv) (xs.map (putAt k u)):=by
 induction r with
 |nil=>exact .nil
 |@cons p q ps qs h t ih=>
  rw[aG,aG];refine .cons ?_ ih;obtain⟨h1,h2,h3⟩:=h;unfold putAt
  by_cases e:p.1=k
  ·rw[aJ e,aJ (h1.symm.trans e)];exact⟨h1,h2,ry⟩
  ·rw[aK e,aK (λz=>e (h1.trans z))];exact⟨h1,h2,h3⟩
def KT.put(r:KT H kvs xs)(k:bf)(hb:TkAt H k b)(ry:RelV y u):
  KT H (ou kvs k y) (storedH xs k b u):=by
 have e:(kvs.any λkv=>decide (kv.1=k))=(atKey xs k).isSome:=by
  rw[Mx,(r.val k).isSome_eq,nO]
 unfold ou storedH;rw[e]
 by_cases q:(atKey xs k).isSome=true
 ·rw[aJ q,aJ q];exact r.repl k ry
 ·rw[aK q,aK q];exact Paired.snoc r ⟨rfl,hb,ry⟩
def KT.keeps(r:KT H kvs xs)(ht:∀b ys,H b=some (.tup ys)->H' b=some (.tup ys)):KT H' kvs xs:=
 Paired.mapP r λ_ _ z=>⟨z.1,z.2.1.mono ht,z.2.2⟩
section
variable{P:bQ}{w:cF}{H:Hp}{h:Heap}{a:Addr}
def IV(ok:HOk P w H h)(e:Rd H a u):ObjOk P w H h a u:=e.ok ok
def C8{kvs:List (gi×V)}(ok:HOk P w H h)(e:Rd H a (.dK kvs)):kvs.length<=aM/\(a==fN)=false/\∃vs,KV kvs vs/\h.DictOf (bb P w) a vs:=
 show ObjOk P w H h a (.dK kvs)from IV ok e
def Qe{kvs:List (gi×V)}(ok:HOk P w H h)(e:H a=some (.dK kvs)):kvs.length<=aM/\(a==fN)=false/\∃vs,KV kvs vs/\h.DictOf (bb P w) a vs:=C8 ok (.inl e)
def CY{ks:List gi}(ok:HOk P w H h)(e:H a=some (.tup (ks.map kV))):iV (bb P w) h ks a:=by
 obtain⟨_,its,r,o,h1,h2,n,h3⟩:=(show ObjOk P w H h a (.tup (ks.map kV))from ok a _ e);exact⟨o,its.toArray,n,h1,h2,h3,by simpa using Gs r⟩
theorem xi(ok:HOk P w H h):∀{ks:bf}{vs:List V}{us:List aH},NkL H ks vs->Vals vs us->NItems P w h ks us
 |[],vs,us,e,r=>by rw[show vs=[]from e]at r;cases r;exact rfl
 |.inl k::ks,vs,us,⟨v,t,e,q,e2⟩,r=>by
  subst e;cases r with
  |cons h1 t1=>exact⟨_,_,rfl,yh (by rw[<-show v=kV k from q];exact h1),xi ok e2 t1⟩
 |.inr ys::ks,vs,us,⟨v,t,e,⟨b,e3,q⟩,e2⟩,r=>by
  subst e e3;cases r with
  |cons h1 t1=>exact⟨_,_,rfl,⟨b,h1,CY ok q⟩,xi ok e2 t1⟩
def xc(ok:HOk P w H h)(e:TkAt H ks a):(a8 P w).is h ks a:=by
 obtain⟨vs,e,nk⟩:=e;obtain⟨_,its,r,o,h1,h2,n,h3⟩:=(show ObjOk P w H h a (.tup vs)from ok a _ e);exact⟨o,its.toArray,n,h1,h2,h3,by simpa using xi ok nk r⟩
def Dc{kvs:List (bf×V)}(ok:HOk P w H h)(e:Rd H a (.dT kvs)):kvs.length<=aM/\(a==fN)=false/\
  ∃xs,KT H kvs xs/\h.DictOfH (a8 P w) a xs:=by
 obtain⟨z,y,xs,r,o,es,ep,h1,h2,h3,h4,h5⟩:=(show ObjOk P w H h a (.dT kvs)from IV ok e);refine⟨z,y,xs,r,o,es,ep,h1,h2,h3,h4,λx hx=>?_,h5⟩;have all:∀{l:List (bf×V)}{m:List (bf×Addr×aH)},KT H l m->∀x∈m,(a8 P w).is h x.1 x.2.1:=by
  intro l m q;induction q with
  |nil=>intro x hx;exact nomatch hx
  |@cons p q ps qs hq t ih=>
   intro x hx;rcases List.mem_cons.mp hx with e|hx
   ·subst e;exact xc ok (by rw[<-hq.1];exact hq.2.1)
   ·exact ih x hx
 exact all r x hx
def HN{kvs:List (bf×V)}(ok:HOk P w H h)(e:H a=some (.dT kvs)):kvs.length<=aM/\(a==fN)=false/\
  ∃xs,KT H kvs xs/\h.DictOfH (a8 P w) a xs:=Dc ok (.inl e)
end
def DGet(H:Hp)(a:Addr)(y:V)(r:Option V):Prop:=
 (∃kvs k,Rd H a (.dK kvs)/\y=kV k/\r=me kvs k)\/∃kvs k b,Rd H a (.dT kvs)/\y=.ref b/\TkAt H k b/\r=me kvs k
def DPut(H:Hp)(a:Addr)(y v:V)(H':Hp):Prop:=
 (∃kvs k,H a=some (.dK kvs)/\y=kV k/\kvs.length<aM/\H'=upd H a (.dK (ou kvs k v)))\/
 ∃kvs k b,H a=some (.dT kvs)/\y=.ref b/\TkAt H k b/\kvs.length<aM/\H'=upd H a (.dT (ou kvs k v))
theorem DGet.k{k:gi}(e:H a=some (.dK kvs)):DGet H a (kV k) (me kvs k):=.inl ⟨kvs,k,.inl e,rfl,rfl⟩
def DGet.t{H:Hp}{a b:Addr}{kvs:List (bf×V)}{k:bf}(e:H a=some (.dT kvs))(eb:TkAt H k b):DGet H a (.ref b) (me kvs k):=.inr ⟨kvs,k,b,.inl e,rfl,eb,rfl⟩
theorem DPut.k{H:Hp}{a:Addr}{kvs:List (gi×V)}{k:gi}{v:V}(e:H a=some (.dK kvs))(hl:kvs.length<aM):DPut H a (kV k) v (upd H a (.dK (ou kvs k v))):=.inl ⟨kvs,k,e,rfl,hl,rfl⟩
def DPut.t{H:Hp}{a b:Addr}{kvs:List (bf×V)}{k:bf}{v:V}(e:H a=some (.dT kvs))(eb:TkAt H k b)(hl:kvs.length<aM):
  DPut H a (.ref b) v (upd H a (.dT (ou kvs k v))):=.inr ⟨kvs,k,b,e,rfl,eb,hl,rfl⟩
section
variable{X:Cx}{pins:List (Addr×Obj)}{U:St}{H:Hp}{s:aN}{a:Addr}{y v:V}{u r:aH}{o:Option V}{A:cS}{E:aH->aN->Prop}
def Inv.big(I:Inv X pins U H s):fN<s.heap.objs.size:=by
 have h:cY<s.heap.objs.size:=(I.mod.glob.keeps I.bk).lt;exact lJ (by decide) h
def Sq(hu:A.units+5<eD)(I:Inv X pins U H s)(g:DGet H a y (some v))(ry:RelV y u)(h:∀w' s',Inv X pins U H s'->RelV v w'->Q w' s'):
  aQ (bI X.prog X.w) A (oR (.ref a) u) Q E s:=by
 rcases g with ⟨kvs,k,e,ey,l⟩|⟨kvs,k,b,e,ey,eb,l⟩
 ·subst ey;obtain⟨z,hd,vs,rel,dd⟩:=C8 I.hok e;obtain⟨w',hw,rw'⟩:=RelO.some_of (v:=v) (o:=pQ vs k) (by rw[l];exact rel.val k);exact wpAny_getItem_of (yh ry) dd.mapOf hw (h w' _ (I.tok _) rw')
 ·subst ey;cases (show u=bX b from ry);obtain⟨z,hd,xs,rel,dd⟩:=Dc I.hok e;obtain⟨w',hw,rw'⟩:=RelO.some_of (v:=v) (o:=(atKey xs k).map (·.2)) (by rw[l];exact rel.val k);obtain⟨p,hp,hp2⟩:=Option.map_eq_some_iff.mp hw;refine wpAny_getItem_heap (gf hu) (xc I.hok eb) dd hp ?_;rw[hp2];exact h w' _ (I.tok _) rw'
def WJ(hu:A.units+5<eD)(I:Inv X pins U H s)(g:DGet H a y o)(ry:RelV y u)(h:∀s',Inv X pins U H s'->Q (.bool o.isSome) s'):
  aQ (bI X.prog X.w) A (cN .In u (.ref a)) Q E s:=by
 rcases g with ⟨kvs,k,e,ey,l⟩|⟨kvs,k,b,e,ey,eb,l⟩
 ·subst ey;obtain⟨z,hd,vs,rel,dd⟩:=C8 I.hok e;refine wpAny_in_of (yh ry) hd dd.mapOf ?_;rw[<-(rel.val k).isSome_eq,<-l];exact h _ (I.tok _)
 ·subst ey;cases (show u=bX b from ry);obtain⟨z,hd,xs,rel,dd⟩:=Dc I.hok e;refine wpAny_in_heap (gf hu) (xc I.hok eb) hd dd ?_;have q:=(rel.val k).isSome_eq;rw[nO]at q;rw[<-q,<-l];exact h _ (I.tok _)
def AB(hu:A.units+5<eD)(I:Inv X pins U H s)(g:DGet H a y o)(ry:RelV y u)(h:∀s',Inv X pins U H s'->Q (.bool (!o.isSome)) s'):
  aQ (bI X.prog X.w) A (cN .NotIn u (.ref a)) Q E s:=by
 rcases g with ⟨kvs,k,e,ey,l⟩|⟨kvs,k,b,e,ey,eb,l⟩
 ·subst ey;obtain⟨z,hd,vs,rel,dd⟩:=C8 I.hok e;refine wpAny_notIn_of (yh ry) hd dd.mapOf ?_;rw[<-(rel.val k).isSome_eq,<-l];exact h _ (I.tok _)
 ·subst ey;cases (show u=bX b from ry);obtain⟨z,hd,xs,rel,dd⟩:=Dc I.hok e;refine wpAny_notIn_heap (gf hu) (xc I.hok eb) hd dd ?_;have q:=(rel.val k).isSome_eq;rw[nO]at q;rw[<-q,<-l];exact h _ (I.tok _)
def Ij{h':Heap}(I:Inv X pins U H s)(mu:PV (H a))(hs:cJ a s.heap h')(he:∃q,h'.get? a=some q)(new:ObjOk X.prog X.w (upd H a ob) h' a ob):
  Inv X pins U (upd H a ob) {s with heap:=h',toks:=t'}:=
 I.write (x:=a) (e:=a) mu (.inl rfl) (λb q hb z=>(hs.2 b hb).trans z) he new
def Vw{h':Heap}{kvs:List (gi×V)}(z:kvs.length<=aM)(hd:(a==fN)=false)(rel:KV kvs vs)(dd:h'.DictOf (bb P w) a vs):
  ObjOk P w H' h' a (.dK kvs):=⟨z,hd,vs,rel,dd⟩
def Sr{H':Hp}{Q:Unit->aN->Prop}(hu:A.units+5<eD)(I:Inv X pins U H s)(g:DPut H a y v H')(ry:RelV y u)(rv:RelV v r)(h:∀s',Inv X pins U H' s'->Q () s'):
  aQ (bI X.prog X.w) A (setItem (.ref a) u r) Q E s:=by
 rcases g with ⟨kvs,k,e,ey,l,eH⟩|⟨kvs,k,b,e,ey,eb,l,eH⟩
 ·subst ey eH;obtain⟨z,hd,vs,rel,dd⟩:=Qe I.hok e;have hz:vs.length<=aM:=by rw[<-rel.length];exact z
  have hl:(ou kvs k v).length<=aM:=by have:=o5 kvs k v;lia
  refine wpAny_setItem_pairs (hsz:=hz) (yh ry) dd λh' dd' hs=>h _ ?_;have he:∃q,h'.get? a=some q:=let ⟨q,_,_,hq,_⟩:=dd';⟨q,hq⟩;exact Ij I (by rw[e];exact jA) hs he (Vw hl hd (rel.put k rv) dd')
 ·subst ey eH;cases (show u=bX b from ry);obtain⟨z,hd,xs,rel,dd⟩:=HN I.hok e;have hz:xs.length<=aM:=by rw[<-kQ rel];exact z
  have hl:(ou kvs k v).length<=aM:=by have:=o5 kvs k v;lia
  refine wpAny_setItem_heap (hsz:=hz) (gf hu) (xc I.hok eb) dd λh' dd' hs=>h _ ?_;obtain⟨q,es,ep,hq,h2,h3,h4,_,h5⟩:=dd';refine Ij I (by rw[e];exact jA) hs ⟨q,hq⟩ ⟨hl,hd,_,(rel.put k eb rv).keeps λc ys ec=>?_,q,es,ep,hq,h2,h3,h4,h5⟩;rw[aq (QG ec e (λz=>nomatch z))];exact ec
end
def Ko{s:aN}(I:Inv X pins U H s)(g:DGet H a y o):s.TypeIs (.ref a) "dict":=by
 rcases g with ⟨kvs,k,e,_,_⟩|⟨kvs,k,b,e,_,_,_⟩
 ·obtain⟨_,_,vs,_,dd⟩:=C8 I.hok e;exact dd.typeIs
 ·obtain⟨_,_,xs,_,dd⟩:=Dc I.hok e;exact dd.typeIs
def SZ(td ty tv:TE):TS:=λD U H=>tv U H λv H1=>td U H1 λx H2=>ty U H2 λy H3=>∃a H4,x=.ref a/\DPut H3 a y v H4/\D.nx U H4
section
variable{X:Cx}{o i e value:Expr}{pos pos' tpos:Pos}{td ty tv:TE}
def Rn(hu:X.A.units+5<eD)(ho:PE X o td)(hi:PE X i ty)(hv:PE X value tv)(hs:gO value (some (.Subscript o i pos')) pos.line X.env=pure false):
  PS X (.Assign [.Subscript o i pos'] value pos) (SZ td ty tv):=by
 intro pins s U H D I h;refine wpAny_Assign_Subscript (jh (hv pins s U H _ I h) λr s1 ⟨v,H1,I1,rv,q1⟩=>jh (ho pins s1 U H1 _ I1 q1) λu s2 ⟨x,H2,I2,rx,q2⟩=>jh (hi pins s2 U H2 _ I2 q2) λiv s3 ⟨y,H3,I3,ry,a,H4,ex,g,q3⟩=>?_) hs;subst ex;obtain rfl:u=bX a:=rx;exact Sr hu I3 g ry rv λs4 I4=>⟨U,H4,I4,q3⟩
end
def Vv(h:Heap)(hb:fN<h.objs.size):ObjOk P w H (h.push {cls:=.type "dict",data:=.dict #[]}) h.objs.size (.dK []):=
 ⟨cT _,beq_eq_false_iff_ne.mpr (dX (bH hb)),[],.nil,Heap.DictOf.new h⟩
def Vx(h:Heap)(hb:fN<h.objs.size):ObjOk P w H (h.push {cls:=.type "dict",data:=.dict #[]}) h.objs.size (.dT []):=
 ⟨cT _,beq_eq_false_iff_ne.mpr (dX (bH hb)),[],.nil,_,#[],0,aT _ rfl,⟨rfl,rfl,rfl⟩,rfl,rfl,fI⟩
def Zg:TE:=λ_ H Q=>∀p,H p=none->Q (.ref p) (upd H p (.dK []))
def Zh:TE:=λ_ H Q=>∀p,H p=none->Q (.ref p) (upd H p (.dT []))
section
variable{X:Cx}{pos:Pos}
def L8:PE X (.Dict [] [] pos) Zg:=λpins s U H Q I h=>
 wpAny_Dict_empty ⟨.ref s.heap.objs.size,_,I.laid (a:=s.heap.objs.size) (o:=.dK []) (t':=s.toks) (λ_ _ q=>aC _ q) (aR _) (Vv s.heap I.big),rfl,h _ (I.hok.fresh (aR _))⟩
def X3:PE X (.Dict [] [] pos) Zh:=λpins s U H Q I h=>
 wpAny_Dict_empty ⟨.ref s.heap.objs.size,_,I.laid (a:=s.heap.objs.size) (o:=.dT []) (t':=s.toks) (λ_ _ q=>aC _ q) (aR _) (Vx s.heap I.big),rfl,h _ (I.hok.fresh (aR _))⟩
end
def uo(kvs more:List (gi×V)):List (gi×V):=more.foldl (λacc kv=>ou acc kv.1 kv.2) kvs
def KV.merge:∀{more:List (gi×V)}{rs:List (gi×aH)}{kvs:List (gi×V)}{vs:List (gi×aH)},KV more rs->KV kvs vs->KV (uo kvs more) (merged vs rs):=by
 intro more rs kvs vs r;unfold KV at r;induction r generalizing kvs vs with
 |nil=>intro q;exact q
 |@cons p q ps qs h t ih=>
  intro r0;have e:KV (ou kvs p.1 p.2) (stored vs q.1 q.2):=by
   have:=r0.put p.1 h.2;rw[<-h.1];exact this
  exact ih e
theorem wa:∀(more kvs:List (gi×V)),(uo kvs more).length<=kvs.length+more.length
 |[],kvs=>by show kvs.length<=kvs.length+0;lia
 |p::r,kvs=>by
  have h1:=wa r (ou kvs p.1 p.2);have h2:=o5 kvs p.1 p.2;show(uo (ou kvs p.1 p.2) r).length<=_;rw[aL];lia
structure M1(X:Cx)(o:Expr)(m:Str)(apos:Pos)(e:Expr)(cpos:Pos):Prop where
 base:jJ o m X.env (eval o X.env)=eval o X.env
 few:((fG cpos (bF [e] X.env)).all (λx=> !x.1) && (oE cpos (lD [] X.env)).all (λx=>x.1.isSome)
  && decide (([e]:List Expr).length+([]:List iZ).length+(if([]:List iZ).isEmpty then 0 else 1)<30))=true
 line:(apos.endLine==cpos.line)=true
 trees:fG cpos (bF [e] X.env)=[(false,eval e X.env)]
structure M2(X:Cx)(o:Expr)(m:Str)(apos:Pos)(e f:Expr)(cpos:Pos):Prop where
 base:jJ o m X.env (eval o X.env)=eval o X.env
 few:((fG cpos (bF [e,f] X.env)).all (λx=> !x.1) && (oE cpos (lD [] X.env)).all (λx=>x.1.isSome)
  && decide (([e,f]:List Expr).length+([]:List iZ).length+(if([]:List iZ).isEmpty then 0 else 1)<30))=true
 line:(apos.endLine==cpos.line)=true
 trees:fG cpos (bF [e,f] X.env)=[(false,eval e X.env),(false,eval f X.env)]
def YS(H:Hp)(a:Addr):Prop:=(∃kvs,Rd H a (.dK kvs))\/∃kvs,Rd H a (.dT kvs)
def Wm(I:Inv X pins U H s)(d:YS H a):
  s.TypeIs (.ref a) "dict"/\(∀b,bX a=.ref b->∃ob,s.heap.get? b=some ob/\ob.dict=none)/\(a==fN)=false:=by
 rcases d with ⟨kvs,e⟩|⟨kvs,e⟩
 ·obtain⟨_,hd,vs,_,dd⟩:=C8 I.hok e;refine⟨dd.typeIs,λb q=>?_,hd⟩;cases q;obtain⟨ob,_,_,h1,h2,_⟩:=dd;exact⟨ob,h1,h2.2.1⟩
 ·obtain⟨_,hd,xs,_,dd⟩:=Dc I.hok e;refine⟨dd.typeIs,λb q=>?_,hd⟩;cases q;obtain⟨ob,_,_,h1,h2,_⟩:=dd;exact⟨ob,h1,h2.2.1⟩
section
variable{X:Cx}{pins:List (Addr×Obj)}{U:St}{H:Hp}{s:aN}{a:Addr}{y d:V}{u r:aH}{o:Option V}{A:cS}{E:aH->aN->Prop}
def JQ(hu:A.units+5<eD)(I:Inv X pins U H s)(g:DGet H a y o)(ry:RelV y u)(rd:RelV d r)(h:∀w' s',Inv X pins U H s'->RelV (o.getD d) w'->Q w' s'):
  aQ (bI X.prog X.w) A (call (.builtin "dict.get") [.ref a,u,r]) Q E s:=by
 rcases g with ⟨kvs,k,e,ey,l⟩|⟨kvs,k,b,e,ey,eb,l⟩
 ·subst ey;obtain⟨z,hd,vs,rel,dd⟩:=C8 I.hok e;refine call_meetsIn lV dd.typeIs PySem.F.entry_dict_get (PySem.F.args_dict_get_3 _ _ _) (meets_dict_get_default (bb X.prog X.w) a (yh ry) hd r) ⟨_,dd.mapOf,h _ _ (I.tok _) ?_⟩;rw[l];exact(rel.val k).getD rd
 ·subst ey;cases (show u=bX b from ry);obtain⟨z,hd,xs,rel,dd⟩:=Dc I.hok e;refine call_meetsIn lV dd.typeIs PySem.F.entry_dict_get (PySem.F.args_dict_get_3 _ _ _) (meetsH_dict_get_default (a8 X.prog X.w) a b hd r) ⟨gf hu,k,xs,xc I.hok eb,dd,h _ _ (I.tok _) ?_⟩;rw[l];exact(rel.val k).getD rd
end
def NM(td ty tx:TE):TE:=λU H Q=>td U H λx H1=>∃a,x=.ref a/\YS H1 a/\ty U H1 λy H2=>tx U H2 λz H3=>∃o,DGet H3 a y o/\Q (o.getD z) H3
section
variable{X:Cx}{o e f:Expr}{apos cpos:Pos}{td ty tx:TE}
def X2(hu:X.A.units+5<eD)(ho:PE X o td)(he:PE X e ty)(hf:PE X f tx)(m:M2 X o "get" apos e f cpos):PE X (.Call (.Attribute o "get" apos) [e,f] [] cpos) (NM td ty tx):=by
 intro pins s U H Q I h;refine wpAny_Call_method m.base m.few m.line PySem.F.plainAttrs_dict lV PySem.F.type_dict_get (jh (ho pins s U H _ I h) λu s1 ⟨x,H1,I1,rx,a,ex,d,q1⟩=>?_);subst ex;obtain rfl:u=bX a:=rx;obtain⟨t1,t2,_⟩:=Wm I1 d;refine⟨t1,t2,?_⟩;rw[m.trees];refine lI rfl (jY (iX (jh (he pins s1 U H1 _ I1 q1) λiv s2 ⟨y,H2,I2,ry,q2⟩=>
  iX (jh (hf pins s2 U H2 _ I2 q2) λfv s3 ⟨z,H3,I3,rz,ov,g,q3⟩=>nN ?_))))
 exact JQ hu I3 g ry rz λw' s4 I4 rw'=>⟨_,H3,I4,rw',q3⟩
end
end L2
namespace Att
open PySem PySem.W PySem.Calls PyProof.Rows
def B1:∀(ns:List Int)(vs:List aH),WellAll P h vs (ns.map WData.int)->IntsAre vs ns:=by
 intro ns;induction ns with
 |nil=>
  intro vs w;rw[jB]at w;cases w;exact .nil
 |cons n ns ih=>
  intro vs w;rw[aG]at w;cases w with
  |cons a b=>
   cases a;exact .cons _ _ (ih _ b)
def Ug{l:OpenLaw}(hn:l.most=some n)
  (hpre:l.row.toRowW.claim.pre args=true)(hwl:WellAll P h vals args):
  ∃a vs ns,vals=[bX a]/\args=[WData.list (ns.map WData.int)]/\h.get? a=some {cls:=.type "list",data:=.seq vs.toArray}/\IntsAre vs ns/\ns.length<=n:=by
 have hsh:WShape.hasAll [] args [.list .int]=true:=(pre_splitW hpre).1;have hc:l.pre.holds [] {args:=args}=true:=(pre_splitW hpre).2;obtain⟨d,r,rfl,h1,h2⟩:=hasAllW_cons hsh;obtain rfl:=hasAllW_nil h2;obtain⟨xs,rfl,h3⟩:=hasW_list h1;obtain⟨ns,rfl⟩:=items_int h3;have hlen:ns.length<=n:=by
  unfold OpenLaw.pre at hc;have h4:(WTm.not (.lt (.lit (.int (n:Int))) (.len (.arg 0)))).holds [] {args:=[.list (ns.map .int)]}=true:=by
   have h4:=(holds_andW hc).1;rw[hn]at h4;exact h4
  have h5:=condW_of h4 (w_not (w_lt w_lit (w_len_list (w_arg rfl))));rw[aF]at h5;refine oF λq=>?_;have q':(n:Int)<((ns.length:Nat):Int):=by lia
  first
   |(rw[decide_eq_true q']at h5;exact absurd h5 (by decide))
   |(simp at h5;lia)
 cases hwl with
 |cons w1 w2=>
  cases w2;cases w1 with
  |list ho hall=>exact⟨_,_,ns,rfl,rfl,ho,B1 ns _ hall,hlen⟩
def T3(l:OpenLaw)(args:List WData):l.row.toRowW.claim.post args (.bool true) args=true:=
 postW_of (r:=l.row.toRowW) (X:=(true==true))
  (show WShape.has [] (.bool true) .bool=true by first|rfl|decide|simp[WShape.has,WShape.arms,WShape.armsAll])
  (show(WTm.eq .res (.lit (.bool true))).value [] {args:=args,res:=some (.bool true),after:=args}=some (.bool (true==true))from w_eq_bool (w_res rfl) w_lit) rfl
def Kc{l:OpenLaw}{n:Nat}{q:bQ}{loose:List Str}{XP:(Str->Option aH)->Heap->Prop}{YP:cF->Heap->Prop}{d:DefRec}
  (hn:l.most=some n)(hdf:d.params.defaults=[])
  (call:∀(w:cF)(s₀ s₁:aN)(mg mb:Str->Option aH)(fa:Addr)(o:Obj)(pm cd doc:aH)(a:Addr)(vs:List aH)(ns:List Int),
   Ground q loose [] XP w s₀ mg mb s₁.heap->YP w s₁.heap->
   s₁.heap.get? fa=some o->o.data=.func (docDef d.name d.params d.body d.scope pm cd doc)->s₁.heap.CodeRec cd d.name->mg d.name=some (.ref fa)->
   s₁.heap.get? a=some {cls:=.type "list",data:=.seq vs.toArray}->IntsAre vs ns->ns.length<=n->s₁.gens=#[]->
   hU (bI l.prog w) pR (.call (.ref fa) ⟨[.ref a],[]⟩) (λr s'=>r=.ok (.ret (.bool true))/\OldK s₁.heap s'.heap/\s'.os=s₁.os/\mS s'.gens) s₁):
  WalkO q loose XP YP l.row.toRowW d [] (λf vs=>PySem.call f vs):=by
 intro w s₀ s₁ mg mb G Y fa o pm cd doc dV kV ho hd hcd hD hmg hg args vals as hpre hlay hrd hwl hlo;obtain rfl:dV=.none:=Dflts.none hD hdf;obtain rfl:kV=.none:=Dflts.noKw hD;obtain⟨a,vs,ns,rfl,rfl,hobj,hints,hlen⟩:=Ug hn hpre hwl;refine enter_call (kJ (call w s₀ s₁ mg mb fa o pm cd doc a vs ns G Y ho (fd_plain hd) hcd hmg hobj hints hlen hg) λr s' hq=>?_);obtain⟨rfl,h2,h3,h4⟩:=hq;exact⟨.inl ⟨.bool true,.bool true,[],rfl,λ_=>rfl,.bool true,T3 l _,λ_=>⟨nP,λ_ hm=>(nomatch hm)⟩⟩,h2,h3,h4⟩
end Att
namespace L2
open PySem PySem.Spec PyProof.Rows
theorem Hr:∀{vs:List aH}{ns:List Int},IntsAre vs ns->Vals (ns.map V.int) vs
 |_,_,.nil=>.nil
 |_,_,.cons n t h=>.cons ⟨t,rfl⟩ (Hr h)
end L2
namespace L2
open PySem PySem.Spec PyProof.Rows
set_option bootstrap.genMatcherCode true in
def ju(s:Stmt):Arguments:=match s with
 |.FunctionDef _ a _ _ _ _ _ _ _ _=>a
 |_=>{posonlyargs:=[],args:=[],vararg:=none,kwonlyargs:=[],kw_defaults:=[],kwarg:=none,defaults:=[]}
set_option bootstrap.genMatcherCode true in
def f9(s:Stmt):List Stmt:=match s with
 |.FunctionDef _ _ b _ _ _ _ _ _ _=>b
 |_=>[]
set_option bootstrap.genMatcherCode true in
def br(s:Stmt):gI:=match s with
 |.FunctionDef _ _ _ _ _ _ sc _ _ _=>sc
 |_=>{kind:=.function,names:=[],isGenerator:=false,isCoroutine:=false}
abbrev OA:AV:=λ_ _ _ _ _ _=>False
abbrev E0:XK:=λ_ _ _=>False
structure Fun(K:bA)(x qual:Str)(st:Stmt)(f:Addr)(fd:jG):Prop where
 ex:∃(oc:aH) (od:Option Addr) (kV doc pm:aH) (an:Option Addr) (cdv ct:aH) (osl:Array (Option aH)),
  fd=eY x qual (ju st) (f9 st) (br st) .none kV doc pm an cdv ct/\K.lookup f=some ⟨oc,od,.func fd,osl⟩/\iQ K cdv qual=true
 kp:dI K (.ref f)=true
section
variable{P:bQ}{w:cF}{K:bA}{mg:Str->Option aH}{base:Heap}
def Fun.binds{x qual:Str}{st:Stmt}{f:Addr}{fd:jG}{ps:List Str}(F:Fun K x qual st f fd)
  (h:∀(kV doc pm:aH)(an:Option Addr)(cdv ct:aH)(us:List aH),us.length=ps.length->bindArgs (eY x qual (ju st) (f9 st) (br st) .none kV doc pm an cdv ct) ⟨us,[]⟩=pure (ps.zip us)):Binds K fd ps []:=by
 obtain⟨oc,od,kV,doc,pm,an,cdv,ct,osl,rfl,lk,hcd⟩:=F.ex;exact .all (h kV doc pm an cdv ct)
def Wb{x qual:Str}{st:Stmt}{f:Addr}{oc:aH}{od an:Option Addr}{osl:Array (Option aH)}{kV doc pm cdv ct:aH}(l:K.lookup f=some ⟨oc,od,.func (eY x qual (ju st) (f9 st) (br st) .none kV doc pm an cdv ct),osl⟩)
  (c:iQ K cdv qual=true)(k:dI K (.ref f)=true):Fun K x qual st f (eY x qual (ju st) (f9 st) (br st) .none kV doc pm an cdv ct):=⟨⟨oc,od,kV,doc,pm,an,cdv,ct,osl,rfl,l,c⟩,k⟩
end
def Same(H H':Hp):Prop:=∀b o,H b=some o->H' b=some o
def Same.refl(H:Hp):Same H H:=λ_ _ h=>h
def Same.trans(a:Same H H1)(b:Same H1 H2):Same H H2:=λc o h=>b c o (a c o h)
def Same.seq{K:bA}{H H':Hp}{a:Addr}{xs:List V}(e:Same H H')(h:SqL K H a xs):SqL K H' a xs:=by
 rcases h with (h|⟨o,h⟩)|h
 ·exact .inl (.inl (e _ _ h))
 ·exact .inl (.inr ⟨o,e _ _ h⟩)
 ·exact .inr h
end L2
end
section
namespace Pu
open PySem
def Ph:List (Addr×Addr×Str):=[]
end Pu
end
section
namespace Pu
open PySem PySem.Spec PyProof.Rows L2
abbrev St:=L2.St
structure KA where
 K:bA
 A:Str->Addr
instance:CoeOut KA bA:=⟨KA.K⟩
def Fh(mg:Str->Option aH)(x:Str):Addr:=match mg x with
 |some (.ref a)=>a
 |_=>0
abbrev kx(X:Cx):KA:=⟨X.K,Fh X.mg⟩
abbrev EK:=Str->Hp->Prop
abbrev ek(K:KA)(E:XK):EK:=λc H=>E (.ref (K.A c)) none H
inductive D where
 |non
 |bl (b:Bool)
 |int (i:Int)
 |str (x:Str)
 |tup (ds:List D)
 |lst (ds:List D)
 |dct (t:Bool) (kvs:List (D×D))
 |obj (e:Expr) (fs:List (Str×D))
 |fn (f:Str)
def kD:gi->D
 |.inl i=>.int i
 |.inr x=>.str x
def gp:List (Str×iP)->List Str
 |[]=>[]
 |(n,k)::r=>if k=.free then n::gp r else gp r
def LamAt(H:Hp)(e:Expr)(a:Addr)(vs:List (Str×V)):Prop:=match e with
 |.Lambda params body scope _=>∃(qual:Str) (pm:aH) (c':Addr) (ctv:aH) (cl:List (Str×Addr)) (oc:Obj) (cvs:Array aH) (t:Tok),
   H a=some (.frz (PySem.W.kla_obj "<lambda>" qual params body scope cl pm c' ctv) (.own 0))/\H c'=some (.frz oc (.own 0))/\oc.data=.fields cvs/\cvs[1]?=some (.str qual t)/\
   (∀x y c,cl.lookup x=some c->cl.lookup y=some c->x=y)/\(∀y,(y,gJ)∈scope.names->∃c,cl.lookup y=some c)/\(∀y c,cl.lookup y=some c->(y,gJ)∈scope.names)/\
   (∀y c,cl.lookup y=some c->∃o v u,H c=some (.frz o (.own 0))/\o.data=.cell (some u)/\(y,v)∈vs/\RelV v u)/\vs.map (·.1)=gp scope.names
 |_=>False
def LamAt.mono(q:Same H H')(h:LamAt H e a vs):LamAt H' e a vs:=by
 unfold LamAt at h⊢;split at h
 ·obtain⟨qual,pm,c',ctv,cl,oc,cvs,t,h1,h2,h3,h4,h5,h6,h7,h8,h9⟩:=h;refine⟨qual,pm,c',ctv,cl,oc,cvs,t,q _ _ h1,q _ _ h2,h3,h4,h5,h6,h7,λy c z=>?_,h9⟩;obtain⟨o,v,u,z1,z2⟩:=h8 y c z;exact⟨o,v,u,q _ _ z1,z2⟩
 ·exact h.elim
def HD:NK->D
 |.inl k=>kD k
 |.inr ks=>.tup (ks.map kD)
def kT(k:bf):D:=.tup (k.map HD)
mutual
def Den(K:KA)(H:Hp):D->V->Prop
 |.non,v=>v=.non
 |.bl b,v=>v=.bl b
 |.int i,v=>v=.int i
 |.str x,v=>v=.str x
 |.tup ds,v=>∃a vs,v=.ref a/\H a=some (.tup vs)/\DenL K H ds vs
 |.lst ds,v=>∃a vs,v=.ref a/\SqL K H a vs/\DenL K H ds vs
 |.dct t kvs,v=>∃a,v=.ref a/\((t=false/\∃es,H a=some (.dK es)/\DenK K H kvs es)\/(t=true/\∃es,H a=some (.dT es)/\DenT K H kvs es))
 |.obj e fs,v=>∃a vs,v=.ref a/\LamAt H e a vs/\DenF K H fs vs
 |.fn f,v=>v=.ref (K.A f)
def DenL(K:KA)(H:Hp):List D->List V->Prop
 |[],vs=>vs=[]
 |d::ds,vs=>∃v r,vs=v::r/\Den K H d v/\DenL K H ds r
def DenF(K:KA)(H:Hp):List (Str×D)->List (Str×V)->Prop
 |[],vs=>vs=[]
 |(n,d)::ds,vs=>∃v r,vs=(n,v)::r/\Den K H d v/\DenF K H ds r
def DenK(K:KA)(H:Hp):List (D×D)->List (gi×V)->Prop
 |[],vs=>vs=[]
 |(k,d)::ds,vs=>∃k' v r,vs=(k',v)::r/\k=kD k'/\Den K H d v/\DenK K H ds r
def DenT(K:KA)(H:Hp):List (D×D)->List (bf×V)->Prop
 |[],vs=>vs=[]
 |(k,d)::ds,vs=>∃k' v r,vs=(k',v)::r/\k=kT k'/\Den K H d v/\DenT K H ds r
end
def SqL.mono{K:KA}{H H':Hp}{a:Addr}{xs:List V}(e:Same H H')(h:SqL K H a xs):SqL K H' a xs:=e.seq h
def SqT.mono{K:KA}{H H':Hp}{a:Addr}{xs:List V}(e:Same H H')(h:SqT K H a xs):SqT K H' a xs:=by
 rcases h with (h|⟨o,h⟩)|h
 ·exact .inl (.inl (e _ _ h))
 ·exact .inl (.inr ⟨o,e _ _ h⟩)
 ·exact .inr h
mutual
theorem Den.mono{K:KA}{H H':Hp}(e:Same H H'):∀{d:D}{v:V},Den K H d v->Den K H' d v
 |.non,_,h=>h
 |.bl _,_,h=>h
 |.int _,_,h=>h
 |.str _,_,h=>h
 |.tup _,_,⟨a,vs,h1,h2,h3⟩=>⟨a,vs,h1,e _ _ h2,DenL.mono e h3⟩
 |.lst _,_,⟨a,vs,h1,h2,h3⟩=>⟨a,vs,h1,SqL.mono e h2,DenL.mono e h3⟩
 |.dct _ _,_,⟨a,h1,h2⟩=>⟨a,h1,h2.elim (λ⟨z,es,q1,q2⟩=>.inl ⟨z,es,e _ _ q1,DenK.mono e q2⟩) λ⟨z,es,q1,q2⟩=>.inr ⟨z,es,e _ _ q1,DenT.mono e q2⟩⟩
 |.obj _ _,_,⟨a,vs,h1,h2,h3⟩=>⟨a,vs,h1,h2.mono e,DenF.mono e h3⟩
 |.fn _,_,h=>h
theorem DenL.mono{K:KA}{H H':Hp}(e:Same H H'):∀{ds:List D}{vs:List V},DenL K H ds vs->DenL K H' ds vs
 |[],_,h=>h
 |_::_,_,⟨v,r,h1,h2,h3⟩=>⟨v,r,h1,Den.mono e h2,DenL.mono e h3⟩
theorem DenF.mono{K:KA}{H H':Hp}(e:Same H H'):∀{ds:List (Str×D)}{vs:List (Str×V)},DenF K H ds vs->DenF K H' ds vs
 |[],_,h=>h
 |(_,_)::_,_,⟨v,r,h1,h2,h3⟩=>⟨v,r,h1,Den.mono e h2,DenF.mono e h3⟩
theorem DenK.mono{K:KA}{H H':Hp}(e:Same H H'):∀{ds:List (D×D)}{vs:List (gi×V)},DenK K H ds vs->DenK K H' ds vs
 |[],_,h=>h
 |(_,_)::_,_,⟨k,v,r,h1,h0,h2,h3⟩=>⟨k,v,r,h1,h0,Den.mono e h2,DenK.mono e h3⟩
theorem DenT.mono{K:KA}{H H':Hp}(e:Same H H'):∀{ds:List (D×D)}{vs:List (bf×V)},DenT K H ds vs->DenT K H' ds vs
 |[],_,h=>h
 |(_,_)::_,_,⟨k,v,r,h1,h0,h2,h3⟩=>⟨k,v,r,h1,h0,Den.mono e h2,DenT.mono e h3⟩
end
section
variable{K:KA}{G H:Hp}
theorem DenL.length:∀{ds:List D}{vs:List V},DenL K H ds vs->ds.length=vs.length
 |[],_,h=>by rw[show _=[]from h];rfl
 |_::_,_,⟨v,r,h1,_,h3⟩=>by rw[h1,aL,aL,DenL.length h3]
theorem DenL.get:∀{ds:List D}{vs:List V}{i:Nat}{d:D},DenL K H ds vs->ds[i]?=some d->∃v,vs[i]?=some v/\Den K H d v
 |[],_,_,_,_,e=>by simp at e
 |_::_,_,0,_,⟨v,r,h1,h2,_⟩,e=>by
  simp at e;subst e;subst h1;exact⟨v,rfl,h2⟩
 |_::_,_,i+1,_,⟨v,r,h1,_,h3⟩,e=>by
  obtain⟨w,q1,q2⟩:=DenL.get (i:=i) h3 (by simpa using e);subst h1;exact⟨w,by simpa using q1,q2⟩
theorem DenL.append:∀{ds es:List D}{vs ws:List V},DenL K H ds vs->DenL K H es ws->DenL K H (ds++es) (vs++ws)
 |[],_,_,_,h,q=>by rw[show _=[]from h];exact q
 |_::_,_,_,_,⟨v,r,h1,h2,h3⟩,q=>⟨v,r++_,by rw[h1];rfl,h2,DenL.append h3 q⟩
def DenL.one(h:Den K H d v):DenL K H [d] [v]:=⟨v,[],rfl,h,rfl⟩
theorem DenL.drop:∀(n:Nat){ds:List D}{vs:List V},DenL K H ds vs->DenL K H (ds.drop n) (vs.drop n)
 |0,_,_,h=>h
 |_+1,[],_,h=>by rw[show _=[]from h];exact rfl
 |n+1,_::_,_,⟨v,r,h1,_,h3⟩=>by subst h1;exact DenL.drop n h3
theorem DenL.take:∀(n:Nat){ds:List D}{vs:List V},DenL K H ds vs->DenL K H (ds.take n) (vs.take n)
 |0,_,_,_=>rfl
 |_+1,[],_,h=>by rw[show _=[]from h];exact rfl
 |n+1,_::_,_,⟨v,r,h1,h2,h3⟩=>by subst h1;exact⟨v,r.take n,rfl,h2,DenL.take n h3⟩
end
def YM:HO->Bool
 |.frz _ _=>false
 |.tup _=>false
 |_=>true
structure Ext(G H G' H':Hp):Prop where
 gg:Same G G'
 hh:Same H H'
 gh:Same G' H'
 fr:∀a o,H a=some o->G a=none->YM o=true->G' a=none
theorem Ext.refl(h:Same G H):Ext G H G H:=⟨Same.refl G,Same.refl H,h,λ_ _ _ q _=>q⟩
theorem Ext.trans(a:Ext G H G1 H1)(b:Ext G1 H1 G2 H2):Ext G H G2 H2:=
 ⟨a.gg.trans b.gg,a.hh.trans b.hh,b.gh,λx o h g z=>b.fr x o (a.hh x o h) (a.fr x o h g z) z⟩
def d9(h:H p=none)(o:HO):Same H (upd H p o):=λb u q=>by rw[aq (bj q h)];exact q
def Ext.new(h:Same G H)(o:HO)(n:H p=none):Ext G H (upd G p o) (upd H p o):=by
 have ng:G p=none:=by
  cases e:G p with
  |none=>rfl
  |some u=>rw[h p u e]at n;cases n
 refine⟨d9 ng o,d9 n o,λb u q=>?_,λa u q g _=>?_⟩
 ·by_cases e:b=p
  ·subst e;rw[bp]at q⊢;exact q
  ·rw[aq e]at q⊢;exact h b u q
 ·rw[aq (bj q n)];exact g
def Ext.own(h:Same G H)(o:HO)(n:H p=none):Ext G H G (upd H p o):=by
 refine⟨Same.refl G,d9 n o,λb u q=>?_,λa u q g _=>g⟩;exact d9 n o b u (h b u q)
def Arg(K:KA)(G H:Hp)(d:D)(v:V):Prop:=
 Den K G d v\/(∃ds a vs,d=.lst ds/\v=.ref a/\SqL K H a vs/\DenL K G ds vs)\/
  ∃t kvs a,d=.dct t kvs/\v=.ref a/\((t=false/\∃es,H a=some (.dK es)/\DenK K G kvs es)\/(t=true/\∃es,H a=some (.dT es)/\DenT K G kvs es))
def Arg.ext{K:KA}{G H G' H':Hp}{d:D}{v:V}(e:Ext G H G' H')(h:Arg K G H d v):Arg K G' H' d v:=by
 rcases h with h|⟨ds,a,vs,h1,h2,h3,h4⟩|⟨t,kvs,a,h1,h2,h3⟩
 ·exact .inl (h.mono e.gg)
 ·exact .inr (.inl ⟨ds,a,vs,h1,h2,SqL.mono e.hh h3,h4.mono e.gg⟩)
 ·exact .inr (.inr ⟨t,kvs,a,h1,h2,h3.elim (λ⟨z,es,q1,q2⟩=>.inl ⟨z,es,e.hh _ _ q1,q2.mono e.gg⟩) λ⟨z,es,q1,q2⟩=>.inr ⟨z,es,e.hh _ _ q1,q2.mono e.gg⟩⟩)
theorem Arg.lst{K:KA}{G H:Hp}{ds:List D}{v:V}(s:Same G H)(h:Arg K G H (.lst ds) v):∃a vs,v=.ref a/\SqL K H a vs/\DenL K G ds vs:=by
 rcases h with ⟨a,vs,h1,h2,h3⟩|⟨ds',a,vs,h1,h2,h3,h4⟩|⟨t,kvs,a,h1,_⟩
 ·exact⟨a,vs,h1,SqL.mono s h2,h3⟩
 ·cases h1;exact⟨a,vs,h2,h3,h4⟩
 ·cases h1
def Arg.tup0{K:KA}{G H:Hp}{ds:List D}{v:V}(s:Same G H)(h:Arg K G H (.tup ds) v):∃a vs,v=.ref a/\H a=some (.tup vs)/\DenL K G ds vs:=by
 rcases h with ⟨a,vs,h1,h2,h3⟩|⟨ds',a,vs,h1,_⟩|⟨t,kvs,a,h1,_⟩
 ·exact⟨a,vs,h1,s _ _ h2,h3⟩
 ·cases h1
 ·cases h1
theorem Arg.tup{K:KA}{G H:Hp}{ds:List D}{v:V}(s:Same G H)(h:Arg K G H (.tup ds) v):∃a vs,v=.ref a/\SqT K H a vs/\DenL K G ds vs:=by
 obtain⟨a,vs,h1,h2,h3⟩:=h.tup0 s;exact⟨a,vs,h1,.inl (.inl h2),h3⟩
theorem Arg.int{K:KA}{G H:Hp}{i:Int}{v:V}(h:Arg K G H (.int i) v):v=.int i:=by
 rcases h with h|⟨ds',a,vs,h1,_⟩|⟨t,kvs,a,h1,_⟩
 ·exact h
 ·cases h1
 ·cases h1
theorem Arg.bl{K:KA}{G H:Hp}{i:Bool}{v:V}(h:Arg K G H (.bl i) v):v=.bl i:=by
 rcases h with h|⟨ds',a,vs,h1,_⟩|⟨t,kvs,a,h1,_⟩
 ·exact h
 ·cases h1
 ·cases h1
theorem Arg.str{K:KA}{G H:Hp}{i:Str}{v:V}(h:Arg K G H (.str i) v):v=.str i:=by
 rcases h with h|⟨ds',a,vs,h1,_⟩|⟨t,kvs,a,h1,_⟩
 ·exact h
 ·cases h1
 ·cases h1
theorem Arg.non{K:KA}{G H:Hp}{v:V}(h:Arg K G H .non v):v=.non:=by
 rcases h with h|⟨ds',a,vs,h1,_⟩|⟨t,kvs,a,h1,_⟩
 ·exact h
 ·cases h1
 ·cases h1
theorem Arg.fn{K:KA}(h:Arg K G H (.fn f) v):v=.ref (K.A f):=by
 rcases h with h|⟨ds',a,vs,h1,_⟩|⟨t,kvs,a,h1,_⟩
 ·exact h
 ·cases h1
 ·cases h1
inductive Res where
 |ok (d:D)
 |er (c:Str)
 |st
def Res.bind(r:Res)(f:D->Res):Res:=match r with
 |.ok d=>f d
 |.er c=>.er c
 |.st=>.st
def Res.of(o:Option D):Res:=match o with
 |some d=>.ok d
 |none=>.st
inductive ResL where
 |ok (ds:List D)
 |er (c:Str)
 |st
inductive Sl where
 |no
 |pu (d:D)
 |bo (d:D)
 |ow (ds:List D)
 |od (t:Bool) (kvs:List (D×D))
abbrev En:=List Sl
def SlOk(K:KA)(B G H:Hp):Sl->Option V->Prop
 |.no,_=>True
 |.pu d,o=>∃v,o=some v/\Den K G d v
 |.bo d,o=>∃v,o=some v/\Arg K G B d v
 |.ow ds,o=>∃a vs,o=some (.ref a)/\H a=some (.lst vs)/\DenL K G ds vs
 |.od false kvs,o=>∃a es,o=some (.ref a)/\H a=some (.dK es)/\DenK K G kvs es
 |.od true kvs,o=>∃a es,o=some (.ref a)/\H a=some (.dT es)/\DenT K G kvs es
def Sl.own:Sl->Bool
 |.ow _=>true
 |.od _ _=>true
 |_=>false
def GOk(H:Hp):Prop:=∀p∈Ph,H p.2.1=some (.tbl (p.2.2))
def GOk.same(e:Same H H')(h:GOk H):GOk H':=λp hp=>e _ _ (h p hp)
structure EnvR(K:KA)(B G H:Hp)(U:St)(W:En):Prop where
 bh:Same B H
 gh:Same G H
 len:U.length=W.length
 sl:∀(i:Nat) s,W[i]?=some s->∃o,U[i]?=some o/\SlOk K B G H s o
 own:∀(i:Nat) s a,W[i]?=some s->s.own=true->U[i]?=some (some (V.ref a))->G a=none/\B a=none
 dis:∀(i j:Nat) s t a,W[i]?=some s->W[j]?=some t->s.own=true->t.own=true->U[i]?=some (some (V.ref a))->U[j]?=some (some (V.ref a))->i=j
 gb:GOk B
def PN{K:KA}{G G' H:Hp}{d:D}{v:V}(e:Same G G')(h:Arg K G H d v):Arg K G' H d v:=by
 rcases h with h|⟨ds,a,vs,h1,h2,h3,h4⟩|⟨t,kvs,a,h1,h2,h3⟩
 ·exact .inl (h.mono e)
 ·exact .inr (.inl ⟨ds,a,vs,h1,h2,h3,h4.mono e⟩)
 ·exact .inr (.inr ⟨t,kvs,a,h1,h2,h3.elim (λ⟨z,es,q1,q2⟩=>.inl ⟨z,es,q1,q2.mono e⟩) λ⟨z,es,q1,q2⟩=>.inr ⟨z,es,q1,q2.mono e⟩⟩)
def WM{K:KA}{G H H':Hp}{d:D}{v:V}(e:Same H H')(h:Arg K G H d v):Arg K G H' d v:=by
 rcases h with h|⟨ds,a,vs,h1,h2,h3,h4⟩|⟨t,kvs,a,h1,h2,h3⟩
 ·exact .inl h
 ·exact .inr (.inl ⟨ds,a,vs,h1,h2,SqL.mono e h3,h4⟩)
 ·exact .inr (.inr ⟨t,kvs,a,h1,h2,h3.elim (λ⟨z,es,q1,q2⟩=>.inl ⟨z,es,e _ _ q1,q2⟩) λ⟨z,es,q1,q2⟩=>.inr ⟨z,es,e _ _ q1,q2⟩⟩)
def SlOk.ext{K:KA}{B G H G' H':Hp}(e:Ext G H G' H'){s:Sl}{o:Option V}(h:SlOk K B G H s o):SlOk K B G' H' s o:=by
 cases s with
 |no=>trivial
 |pu d=>obtain⟨v,h1,h2⟩:=h;exact⟨v,h1,h2.mono e.gg⟩
 |bo d=>obtain⟨v,h1,h2⟩:=h;exact⟨v,h1,PN e.gg h2⟩
 |ow ds=>obtain⟨a,vs,h1,h2,h3⟩:=h;exact⟨a,vs,h1,e.hh _ _ h2,h3.mono e.gg⟩
 |od t kvs=>
  cases t with
  |false=>obtain⟨a,vs,h1,h2,h3⟩:=h;exact⟨a,vs,h1,e.hh _ _ h2,h3.mono e.gg⟩
  |true=>obtain⟨a,vs,h1,h2,h3⟩:=h;exact⟨a,vs,h1,e.hh _ _ h2,h3.mono e.gg⟩
theorem SlOk.ref{K:KA}{B G H:Hp}{s:Sl}{o:Option V}(h:SlOk K B G H s o)(q:s.own=true):∃a,o=some (V.ref a)/\∃u,H a=some u/\YM u=true:=by
 cases s with
 |no=>cases q
 |pu d=>cases q
 |bo d=>cases q
 |ow ds=>obtain⟨a,vs,h1,h2,_⟩:=h;exact⟨a,h1,_,h2,rfl⟩
 |od t kvs=>
  cases t with
  |false=>obtain⟨a,vs,h1,h2,_⟩:=h;exact⟨a,h1,_,h2,rfl⟩
  |true=>obtain⟨a,vs,h1,h2,_⟩:=h;exact⟨a,h1,_,h2,rfl⟩
theorem EnvR.ext{K:KA}{B G H G' H':Hp}{U:St}{W:En}(e:Ext G H G' H')(r:EnvR K B G H U W):EnvR K B G' H' U W where
 bh:=r.bh.trans e.hh
 gb:=r.gb
 gh:=e.gh
 len:=r.len
 sl:=λi s h=>by
  obtain⟨o,q1,q2⟩:=r.sl i s h;exact⟨o,q1,q2.ext e⟩
 own:=λi s a h1 h2 h3=>by
  obtain⟨g,b⟩:=r.own i s a h1 h2 h3;obtain⟨o,q1,q2⟩:=r.sl i s h1;rw[h3]at q1;cases q1;obtain⟨a',z,u,q3,q4⟩:=q2.ref h2;cases z;exact⟨e.fr a u q3 g q4,b⟩
 dis:=r.dis
def ResP(E:EK)(G H:Hp)(r:Res)(P:D->Prop):Prop:=match r with
 |.ok d=>P d
 |.er c=>∀G' H',Ext G H G' H'->E c H'
 |.st=>False
def ResLP(E:EK)(G H:Hp)(r:ResL)(P:List D->Prop):Prop:=match r with
 |.ok ds=>P ds
 |.er c=>∀G' H',Ext G H G' H'->E c H'
 |.st=>False
section
variable{E:EK}{G H G' H':Hp}
def ResP.mono(h:ResP E G H r P)(f:∀d,r=.ok d->P d->P' d):ResP E G H r P':=by
 cases r with
 |ok d=>exact f d rfl h
 |er c=>exact h
 |st=>exact h
def ResP.ext(e:Ext G H G' H')(h:ResP E G H r P):ResP E G' H' r P:=by
 cases r with
 |ok d=>exact h
 |er c=>exact λG2 H2 e2=>h G2 H2 (e.trans e2)
 |st=>exact h
theorem ResP.bind{r:Res}(h:ResP E G H (r.bind f) P):ResP E G H r λd=>ResP E G H (f d) P:=by
 cases r with
 |ok d=>exact h
 |er c=>exact h
 |st=>exact h
theorem ResP.of(h:ResP E G H (Res.of o) P):∃d,o=some d/\P d:=by
 cases o with
 |some d=>exact⟨d,rfl,h⟩
 |none=>exact h.elim
def ResLP.mono(h:ResLP E G H r P)(f:∀d,r=.ok d->P d->P' d):ResLP E G H r P':=by
 cases r with
 |ok d=>exact f d rfl h
 |er c=>exact h
 |st=>exact h
def ResLP.ext(e:Ext G H G' H')(h:ResLP E G H r P):ResLP E G' H' r P:=by
 cases r with
 |ok d=>exact h
 |er c=>exact λG2 H2 e2=>h G2 H2 (e.trans e2)
 |st=>exact h
end
def WZ(K:KA)(G H:Hp)(m:Bool)(d:D)(v:V):Prop:=match m with
 |true=>Arg K G H d v
 |false=>Den K G d v
def ArgsM(K:KA)(G H:Hp):List Bool->List D->List V->Prop
 |[],ds,vs=>ds=[]/\vs=[]
 |m::ms,ds,vs=>∃d dr v vr,ds=d::dr/\vs=v::vr/\WZ K G H m d v/\ArgsM K G H ms dr vr
theorem ArgsM.length{K:KA}{G H:Hp}:∀{ms:List Bool}{ds:List D}{vs:List V},ArgsM K G H ms ds vs->ds.length=ms.length/\vs.length=ms.length
 |[],_,_,⟨h1,h2⟩=>by rw[h1,h2];exact⟨rfl,rfl⟩
 |_::_,_,_,⟨d,dr,v,vr,h1,h2,h3,h4⟩=>by
  obtain⟨q1,q2⟩:=h4.length;rw[h1,h2,aL,aL,aL,q1,q2];exact⟨rfl,rfl⟩
section
variable(K:KA)(B:Hp)(E:EK)
def OK(g:En->Res):TE:=λU H Q=>∃G W,EnvR K B G H U W/\ResP E G H (g W) λd=>∀v G' H',Ext G H G' H'->Den K G' d v->Q v H'
def NN(g:En->Res):TE:=λU H Q=>∃G W,EnvR K B G H U W/\ResP E G H (g W) λd=>∀v G' H',Ext G H G' H'->Arg K G' H' d v->Q v H'
def YF(g:En->Res):TE:=λU H Q=>∃G W,EnvR K B G H U W/\ResP E G H (g W) λd=>∃ds,d=.lst ds/\
 ∀a vs G' H',Ext G H G' H'->H a=none->G' a=none->H' a=some (.lst vs)->DenL K G' ds vs->Q (.ref a) H'
def YE(g:En->Res):TT:=λU H Q=>∃G W,EnvR K B G H U W/\ResP E G H (g W) λd=>∃b,d=.bl b/\∀G' H',Ext G H G' H'->Q b H'
def XJ(ms:List Bool)(g:En->ResL):TA:=λU H Q=>∃G W,EnvR K B G H U W/\ResLP E G H (g W) λds=>∀vs G' H',Ext G H G' H'->ArgsM K G' H' ms ds vs->Q vs H'
end
abbrev gj(X:Cx)(B:Hp)(E:EK)(e:Expr)(g:En->Res):Prop:=PE X e (OK (kx X) B E g)
abbrev jq(X:Cx)(B:Hp)(E:EK)(e:Expr)(g:En->Res):Prop:=PE X e (NN (kx X) B E g)
abbrev AN(X:Cx)(B:Hp)(E:EK)(e:Expr)(g:En->Res):Prop:=PE X e (YF (kx X) B E g)
abbrev Fi(X:Cx)(B:Hp)(E:EK)(e:Expr)(g:En->Res):Prop:=PT X e (YE (kx X) B E g)
abbrev AS(X:Cx)(B:Hp)(E:EK)(e:Expr)(g:En->Res):Prop:=PW X e (YE (kx X) B E g)
abbrev Px(X:Cx)(B:Hp)(E:EK)(ms:List Bool)(es:List Expr)(g:En->ResL):Prop:=PA X es (XJ (kx X) B E ms g)
def PE.imp(h:PE X e t)(i:∀U H Q,t' U H Q->t U H Q):PE X e t':=λpins s U H Q I q=>h pins s U H Q I (i U H Q q)
def PT.imp(h:PT X e t)(i:∀U H Q,t' U H Q->t U H Q):PT X e t':=λpins s U H Q I q=>h pins s U H Q I (i U H Q q)
def PW.imp(h:PW X e t)(i:∀U H Q,t' U H Q->t U H Q):PW X e t':=λwh pins s U H Q I q=>h wh pins s U H Q I (i U H Q q)
def PA.imp(h:PA X e t)(i:∀U H Q,t' U H Q->t U H Q):PA X e t':=λpos pins s U H Q I q=>h pos pins s U H Q I (i U H Q q)
section
variable{X:Cx}{B:Hp}{E:EK}{e a b c:Expr}{es:List Expr}{g h k:En->Res}{pos:Pos}
noncomputable def a6(i:Nat):En->Res:=λW=>match W[i]? with
 |some (.pu d)=>.ok d
 |_=>.st
noncomputable def ae(i:Nat):En->Res:=λW=>match W[i]? with
 |some (.pu d)=>.ok d
 |some (.bo d)=>.ok d
 |some (.ow ds)=>.ok (.lst ds)
 |some (.od t kvs)=>.ok (.dct t kvs)
 |_=>.st
noncomputable def gC(d:D):En->Res:=λ_=>.ok d
def EnvR.var{K:KA}{G H:Hp}{U:St}{W:En}{i:Nat}{d:D}(R:EnvR K B G H U W)(h:W[i]?=some (.pu d)):∃v,U[i]?=some (some v)/\Den K G d v:=by
 obtain⟨o,q1,v,q2,q3⟩:=R.sl i _ h;exact⟨v,by rw[q1,q2],q3⟩
def EnvR.arg{K:KA}{G H:Hp}{U:St}{W:En}{i:Nat}{d:D}(R:EnvR K B G H U W)(h:ae i W=.ok d):∃v,U[i]?=some (some v)/\Arg K G H d v:=by
 unfold ae at h;cases e:W[i]? with
 |none=>rw[e]at h;cases h
 |some s=>
  rw[e]at h;obtain⟨o,q1,q2⟩:=R.sl i _ e;cases s with
  |no=>cases h
  |pu d'=>
   cases h;obtain⟨v,q2,q3⟩:=q2;exact⟨v,by rw[q1,q2],.inl q3⟩
  |bo d'=>
   cases h;obtain⟨v,q2,q3⟩:=q2;exact⟨v,by rw[q1,q2],WM R.bh q3⟩
  |ow ds=>
   cases h;obtain⟨a,vs,q2,q3,q4⟩:=q2;exact⟨.ref a,by rw[q1,q2],.inr (.inl ⟨ds,a,vs,rfl,rfl,SqL.of q3,q4⟩)⟩
  |od t kvs=>
   cases h;cases t with
   |false=>
    obtain⟨a,vs,q2,q3,q4⟩:=q2;exact⟨.ref a,by rw[q1,q2],.inr (.inr ⟨false,kvs,a,rfl,rfl,.inl ⟨rfl,vs,q3,q4⟩⟩)⟩
   |true=>
    obtain⟨a,vs,q2,q3,q4⟩:=q2;exact⟨.ref a,by rw[q1,q2],.inr (.inr ⟨true,kvs,a,rfl,rfl,.inr ⟨rfl,vs,q3,q4⟩⟩)⟩
def ML(i:Nat){x:Str}(h:PE X (.Name x pos) (Fy i)):gj X B E (.Name x pos) (a6 i):=PE.imp h λU H Q ⟨G,W,R,q⟩=>by
 unfold a6 at q;cases e:W[i]? with
 |none=>rw[e]at q;exact q.elim
 |some s=>
  rw[e]at q;cases s with
  |pu d=>
   obtain⟨v,q1,q2⟩:=R.var e;exact⟨v,q1,q v G H (Ext.refl R.gh) q2⟩
  |no=>exact q.elim
  |bo d=>exact q.elim
  |ow d=>exact q.elim
  |od t d=>exact q.elim
def IB(i:Nat)(h:PE X (.Name x pos) (Fy i)):jq X B E (.Name x pos) (ae i):=PE.imp h λU H Q ⟨G,W,R,q⟩=>by
 cases e:ae i W with
 |ok d=>
  rw[e]at q;obtain⟨v,q1,q2⟩:=R.arg e;exact⟨v,q1,q v G H (Ext.refl R.gh) q2⟩
 |er c=>
  unfold ae at e;split at e<;>cases e
 |st=>rw[e]at q;exact q.elim
def RS(h:gj X B E e g):jq X B E e g:=PE.imp h λU H Q ⟨G,W,R,q⟩=>⟨G,W,R,q.mono λd _ q v G' H' x y=>q v G' H' x (.inl y)⟩
def qr(h:PE X e (tC v))(r:∀H,Den (kx X) H d v):gj X B E e (gC d):=PE.imp h λU H Q ⟨G,W,R,q⟩=>q v G H (Ext.refl R.gh) (r G)
def MV{i j}:gj X B E (.Constant (.int i) j pos) (gC (.int i)):=qr X4 λ_=>rfl
def RQ{b j}:gj X B E (.Constant (.bool b) j pos) (gC (.bl b)):=qr RX λ_=>rfl
def MQ{j}:gj X B E (.Constant .none j pos) (gC .non):=qr LU λ_=>rfl
def MO{x j}:gj X B E (.Constant (.str x) j pos) (gC (.str x)):=qr LQ λ_=>rfl
def EI(hg:Gl X x)(hm:X.mg x=some (.str y t))(hd:(x==("__debug__":Str))=false:=by decide):gj X B E (.Name x pos) (gC (.str y)):=qr (v:=.str y) (Rf hg hm ⟨t,rfl⟩ hd) λ_=>rfl
def m6(h:mg x=some (.ref f)):Fh mg x=f:=by unfold Fh;rw[h]
def MW(hg:Gl X x)(hm:X.mg x=some (.ref f))(hd:(x==("__debug__":Str))=false:=by decide):gj X B E (.Name x pos) (gC (.fn x)):=qr (Rf (v:=.ref f) hg hm rfl hd) λ_=>by show V.ref f=V.ref (Fh X.mg x);rw[m6 hm]
noncomputable def g1(f:D->Option D)(g:En->Res):En->Res:=λW=>(g W).bind λx=>Res.of (f x)
noncomputable def g2(f:D->D->Option D)(g h:En->Res):En->Res:=λW=>(g W).bind λx=>(h W).bind λy=>Res.of (f x y)
def ib(K:KA)(f:D->D->Option D)(r:R2):Prop:=∀G H x y dx dy d,Same G H->Arg K G H dx x->Arg K G H dy y->f dx dy=some d->
 ∀Q:VK,(∀v G' H',Ext G H G' H'->Den K G' d v->Q v H')->r x y H Q
def UR{K:KA}{f:D->D->Option D}{r:R2}(hp:ib K f r){U:St}{H:Hp}{Q:VK}(q:OK K B E (g2 f g h) U H Q):SL r (NN K B E g) (NN K B E h) U H Q:=by
 obtain⟨G,W,R,q⟩:=q;refine⟨G,W,R,(ResP.bind q).mono λdx _ qx x G1 H1 e1 ax=>⟨G1,W,R.ext e1,((ResP.bind qx).ext e1).mono λdy _ qy y G2 H2 e2 ay=>?_⟩⟩;obtain⟨d,ed,qd⟩:=ResP.of qy;exact hp G2 H2 x y dx dy d e2.gh (ax.ext e2) ay ed Q λv G' H' e3 dn=>qd v G' H' ((e1.trans e2).trans e3) dn
def Mc(ho:OpR X (iO op) r)(hp:ib (kx X) f r)(ha:jq X B E a g)(hb:jq X B E b h):gj X B E (.BinOp a op b pos) (g2 f g h):=
 PE.imp (RV ho ha hb) λU H Q q=>UR hp q
def MX(ho:OpR X (cN op) r)(hp:ib (kx X) f r)(ha:jq X B E a g)(hb:jq X B E b h)(hm:kR op b=false):gj X B E (.Compare a [op] [b] pos) (g2 f g h):=
 PE.imp (DI ho ha hb hm) λU H Q q=>UR hp q
def EO{op:CmpOp}{f:D->D->Option D}{r:R2}(ho:OpR X (cN op) r)(hp:ib (kx X) f r)(hb':∀x y d,f x y=some d->∃b,d=.bl b)(ha:jq X B E a g)(hb:jq X B E b h)(hm:kR op b=false):Fi X B E (.Compare a [op] [b] pos) (g2 f g h):=
 PT.imp (Ro ho ha hb hm) λU H Q ⟨G,W,R,q⟩=>UR hp ⟨G,W,R,q.mono λd ed ⟨b,eb,qb⟩ v G' H' e3 dn=>by
  subst eb;exact⟨b,dn,qb G' H' e3⟩⟩
noncomputable def Ff:D->Option Bool
 |.non=>some false
 |.bl b=>some b
 |.int i=>some (i !=0)
 |.str x=>if x.length<=aM then some ((x.length:Int) !=0)else none
 |.tup ds=>some !ds.isEmpty
 |.lst ds=>some !ds.isEmpty
 |_=>none
def bD(o:Option Bool):Option D:=o.map .bl
def Ba{K:KA}{G:Hp}{ds:List D}{vs:List V}(h:DenL K G ds vs):(!ds.isEmpty)= !vs.isEmpty:=by
 have q:=h.length;cases ds<;>cases vs<;>first|rfl|(simp at q)
def GS{K:KA}{G H:Hp}{d:D}{v:V}{b:Bool}(s:Same G H)(h:Arg K G H d v)(e:Ff d=some b):ID K v H b:=by
 cases d with
 |non=>rw[h.non];cases e;rfl
 |bl i=>rw[h.bl];cases e;rfl
 |int i=>rw[h.int];cases e;rfl
 |str x=>
  rw[h.str];have e':(if x.length<=aM then some ((x.length:Int) !=0)else none)=some b:=e
  by_cases hx:x.length<=aM
  ·rw[aJ hx]at e';cases e';exact⟨hx,rfl⟩
  ·rw[aK hx]at e';cases e'
 |tup ds=>
  obtain⟨a,vs,rfl,q1,q2⟩:=h.tup s;cases e;exact .inr (.inl ⟨vs,q1,Ba q2⟩)
 |lst ds=>
  obtain⟨a,vs,rfl,q1,q2⟩:=h.lst s;cases e;exact .inl ⟨vs,q1,Ba q2⟩
 |dct _ _=>cases e
 |obj _ _=>cases e
 |fn _=>cases e
def Yj(ha:jq X B E a g)(he:∀whole,isTrue a X.env whole=(do let v <-whole;standAt a.pos;pO [v] (truthy v)):=by intro _;rfl):Fi X B E a (g1 (λd=>bD (Ff d)) g):=
 PT.imp (Yk ha he) λU H Q ⟨G,W,R,q⟩=>⟨G,W,R,(ResP.bind q).mono λdx _ qx x G1 H1 e1 ax=>by
  obtain⟨d,ed,b,eb,qb⟩:=ResP.of qx;dsimp only at ed;cases et:Ff dx with
  |none=>rw[et]at ed;cases ed
  |some b'=>
   rw[et]at ed;cases ed;cases eb;exact⟨b,GS e1.gh ax et,qb G1 H1 e1⟩⟩
def Qq(c a b:En->Res):En->Res:=λW=>(c W).bind λd=>match d with
 |.bl true=>a W
 |.bl false=>b W
 |_=>.st
noncomputable def gc(c:En->Res):En->Res:=λW=>(c W).bind λd=>match d with
 |.bl b=>.ok (.bl !b)
 |_=>.st
noncomputable def ie(a b:En->Res):En->Res:=Qq a b (gC (.bl false))
noncomputable def vc(a b:En->Res):En->Res:=Qq a (gC (.bl true)) b
def QO{K:KA}{P:D->Prop}{c:En->Res}{W:En}{a b:En->Res}{G H:Hp}(q:ResP E G H (Qq c a b W) P):
  ResP E G H (c W) λd=>∃t,d=.bl t/\(t=true->ResP E G H (a W) P)/\(t=false->ResP E G H (b W) P):=
 (ResP.bind q).mono λd _ q=>by
  cases d with
  |bl t=>cases t with
   |true=>exact⟨true,rfl,λ_=>q,λz=>by cases z⟩
   |false=>exact⟨false,rfl,λz=>(by cases z),λ_=>q⟩
  |non=>exact q.elim
  |int _=>exact q.elim
  |str _=>exact q.elim
  |tup _=>exact q.elim
  |lst _=>exact q.elim
  |dct _ _=>exact q.elim
  |obj _ _=>exact q.elim
  |fn _=>exact q.elim
def EN(ha:Fi X B E a g):Fi X B E (.UnaryOp .Not a pos) (gc g):=PT.imp (LC ha) λU H Q ⟨G,W,R,q⟩=>⟨G,W,R,(ResP.bind q).mono λd _ q=>by
 cases d with
 |bl t=>
  obtain⟨b,eb,qb⟩:=q;cases eb;exact⟨t,rfl,qb⟩
 |non=>exact q.elim
 |int _=>exact q.elim
 |str _=>exact q.elim
 |tup _=>exact q.elim
 |lst _=>exact q.elim
 |dct _ _=>exact q.elim
 |obj _ _=>exact q.elim
 |fn _=>exact q.elim⟩
def Yt(ha:Fi X B E a g):AS X B E (.BoolOp .And [a] pos) g:=FZ ha
def FY(ha:Fi X B E a g):AS X B E (.BoolOp .Or [a] pos) g:=MI ha
def EA{rest:List Expr}(ha:Fi X B E a g)(hb:AS X B E (.BoolOp .And (b::rest) pos) h):AS X B E (.BoolOp .And (a::b::rest) pos) (ie g h):=
 PW.imp (MK ha hb) λU H Q ⟨G,W,R,q⟩=>⟨G,W,R,(QO (K:=(kx X)) q).mono λd _ ⟨t,ed,qt⟩=>⟨t,ed,λG1 H1 e1=>by
  cases t with
  |true=>exact⟨G1,W,R.ext e1,((qt.1 rfl).ext e1).mono λd _ ⟨b,eb,qb⟩=>⟨b,eb,λG2 H2 e2=>qb G2 H2 (e1.trans e2)⟩⟩
  |false=>
   obtain⟨b,eb,qb⟩:=(qt.2 rfl);cases eb;exact qb G1 H1 e1⟩⟩
def MJ{rest:List Expr}(ha:Fi X B E a g)(hb:AS X B E (.BoolOp .Or (b::rest) pos) h):AS X B E (.BoolOp .Or (a::b::rest) pos) (vc g h):=
 PW.imp (RK ha hb) λU H Q ⟨G,W,R,q⟩=>⟨G,W,R,(QO (K:=(kx X)) q).mono λd _ ⟨t,ed,qt⟩=>⟨t,ed,λG1 H1 e1=>by
  cases t with
  |false=>exact⟨G1,W,R.ext e1,((qt.2 rfl).ext e1).mono λd _ ⟨b,eb,qb⟩=>⟨b,eb,λG2 H2 e2=>qb G2 H2 (e1.trans e2)⟩⟩
  |true=>
   obtain⟨b,eb,qb⟩:=(qt.1 rfl);cases eb;exact qb G1 H1 e1⟩⟩
def RT(h:AS X B E e g):Fi X B E e g:=PW.pt h
def Yp{op}(h:gj X B E a g):gj X B E (.BoolOp op [a] pos) g:=LR h
def MZ{rest:List Expr}(ha:gj X B E a g)(hb:gj X B E (.BoolOp .And (b::rest) pos) h):gj X B E (.BoolOp .And (a::b::rest) pos) (ie g h):=
 PE.imp (LW ha hb) λU H Q ⟨G,W,R,q⟩=>⟨G,W,R,(QO (K:=(kx X)) q).mono λd _ ⟨t,ed,qt⟩ v G1 H1 e1 dn=>by
  subst ed;refine⟨t,dn,?_⟩;cases t with
  |true=>exact⟨G1,W,R.ext e1,((qt.1 rfl).ext e1).mono λd _ qb v G2 H2 e2 dn=>qb v G2 H2 (e1.trans e2) dn⟩
  |false=>exact(qt.2 rfl) _ G1 H1 e1 rfl⟩
def RL{rest:List Expr}(ha:gj X B E a g)(hb:gj X B E (.BoolOp .Or (b::rest) pos) h):gj X B E (.BoolOp .Or (a::b::rest) pos) (vc g h):=
 PE.imp (RU ha hb) λU H Q ⟨G,W,R,q⟩=>⟨G,W,R,(QO (K:=(kx X)) q).mono λd _ ⟨t,ed,qt⟩ v G1 H1 e1 dn=>by
  subst ed;refine⟨t,dn,?_⟩;cases t with
  |false=>exact⟨G1,W,R.ext e1,((qt.2 rfl).ext e1).mono λd _ qb v G2 H2 e2 dn=>qb v G2 H2 (e1.trans e2) dn⟩
  |true=>exact(qt.1 rfl) _ G1 H1 e1 rfl⟩
def MP(ha:gj X B E a g):gj X B E (.UnaryOp .Not a pos) (gc g):=PE.imp (LS ha) λU H Q ⟨G,W,R,q⟩=>⟨G,W,R,(ResP.bind q).mono λd _ q v G1 H1 e1 dn=>by
 cases d with
 |bl t=>exact⟨t,dn,q _ G1 H1 e1 rfl⟩
 |non=>exact q.elim
 |int _=>exact q.elim
 |str _=>exact q.elim
 |tup _=>exact q.elim
 |lst _=>exact q.elim
 |dct _ _=>exact q.elim
 |obj _ _=>exact q.elim
 |fn _=>exact q.elim⟩
def RO{c:Expr}(hc:Fi X B E c k)(ha:gj X B E a g)(hb:gj X B E b h):gj X B E (.IfExp c a b pos) (Qq k g h):=
 PE.imp (L9 hc ha hb) λU H Q ⟨G,W,R,q⟩=>⟨G,W,R,(QO (K:=(kx X)) q).mono λd _ ⟨t,ed,qt⟩=>⟨t,ed,λG1 H1 e1=>by
  cases t with
  |true=>exact⟨G1,W,R.ext e1,((qt.1 rfl).ext e1).mono λd _ qb v G2 H2 e2 dn=>qb v G2 H2 (e1.trans e2) dn⟩
  |false=>exact⟨G1,W,R.ext e1,((qt.2 rfl).ext e1).mono λd _ qb v G2 H2 e2 dn=>qb v G2 H2 (e1.trans e2) dn⟩⟩⟩
noncomputable def ah:En->ResL:=λ_=>.ok []
noncomputable def aa(g:En->Res)(r:En->ResL):En->ResL:=λW=>match g W with
 | .ok d => (match r W with
  |.ok ds=>.ok (d::ds)
  |.er c=>.er c
  |.st=>.st)
 |.er c=>.er c
 |.st=>.st
def HP(q:ResLP E G H (aa g r W) P):ResP E G H (g W) λd=>ResLP E G H (r W) λds=>P (d::ds):=by
 unfold aa at q;cases e:g W with
 |ok d=>
  rw[e]at q;cases e2:r W with
  |ok ds=>rw[e2]at q;exact q
  |er c=>rw[e2]at q;exact q
  |st=>rw[e2]at q;exact q
 |er c=>rw[e]at q;exact q
 |st=>rw[e]at q;exact q
def ip:Px X B E [] [] ah:=PA.imp Ji λU H Q ⟨G,W,R,q⟩=>q [] G H (Ext.refl R.gh) ⟨rfl,rfl⟩
def fc(ha:jq X B E e g)(hr:Px X B E ms es r)(hs:bF (e::es) X.env=(false,eval e X.env)::bF es X.env:=by rfl):Px X B E (true::ms) (e::es) (aa g r):=
 PA.imp (vj ha hr hs) λU H Q ⟨G,W,R,q⟩=>⟨G,W,R,(HP q).mono λd _ q x G1 H1 e1 ax=>⟨G1,W,R.ext e1,(q.ext e1).mono λds _ q vs G2 H2 e2 al=>
  q (x::vs) G2 H2 (e1.trans e2) ⟨d,ds,x,vs,rfl,rfl,ax.ext e2,al⟩⟩⟩
def Cv(ha:gj X B E e g)(hr:Px X B E ms es r)(hs:bF (e::es) X.env=(false,eval e X.env)::bF es X.env:=by rfl):Px X B E (false::ms) (e::es) (aa g r):=
 PA.imp (vj ha hr hs) λU H Q ⟨G,W,R,q⟩=>⟨G,W,R,(HP q).mono λd _ q x G1 H1 e1 ax=>⟨G1,W,R.ext e1,(q.ext e1).mono λds _ q vs G2 H2 e2 al=>
  q (x::vs) G2 H2 (e1.trans e2) ⟨d,ds,x,vs,rfl,rfl,ax.mono e2.gg,al⟩⟩⟩
def Hz:List Bool->Bool
 |[]=>true
 |b::r=> !b && Hz r
theorem ArgsM.den{K:KA}{G H:Hp}:∀{ms:List Bool}{ds:List D}{vs:List V},Hz ms=true->ArgsM K G H ms ds vs->DenL K G ds vs
 |[],_,_,_,⟨h1,h2⟩=>by subst h1;subst h2;exact rfl
 |true::_,_,_,h,_=>by simp[Hz]at h
 |false::ms,_,_,h,⟨d,dr,v,vr,h1,h2,h3,h4⟩=>by
  subst h1;subst h2;exact⟨v,vr,rfl,h3,ArgsM.den (by simpa[Hz]using h) h4⟩
noncomputable def iu(r:En->ResL):En->Res:=λW=>match r W with
 |.ok ds=>if ds.length<=aM then .ok (.tup ds)else .st
 |.er c=>.er c
 |.st=>.st
noncomputable def fm(r:En->ResL):En->Res:=λW=>match r W with
 |.ok ds=>if ds.length<=aM then .ok (.lst ds)else .st
 |.er c=>.er c
 |.st=>.st
def XA(q:ResP E G H (iu r W) P):ResLP E G H (r W) λds=>ds.length<=aM/\P (.tup ds):=by
 unfold iu at q;cases e:r W with
 |ok ds=>
  rw[e]at q
  by_cases hl:ds.length<=aM
  ·simp only[aJ hl]at q;exact⟨hl,q⟩
  ·simp only[aK hl]at q;exact q.elim
 |er c=>rw[e]at q;exact q
 |st=>rw[e]at q;exact q
def WB(q:ResP E G H (fm r W) P):ResLP E G H (r W) λds=>ds.length<=aM/\P (.lst ds):=by
 unfold fm at q;cases e:r W with
 |ok ds=>
  rw[e]at q
  by_cases hl:ds.length<=aM
  ·simp only[aJ hl]at q;exact⟨hl,q⟩
  ·simp only[aK hl]at q;exact q.elim
 |er c=>rw[e]at q;exact q
 |st=>rw[e]at q;exact q
theorem DenL.upd{K:KA}{G:Hp}{p:Addr}{ds:List D}{vs:List V}(h:DenL K G ds vs)(n:G p=none)(o:HO):DenL K (upd G p o) ds vs:=h.mono (d9 n o)
def cz(s:Same G H)(n:H p=none):G p=none:=by
 cases e:G p with
 |none=>rfl
 |some u=>rw[s p u e]at n;cases n
def nj{K:KA}{G H:Hp}{p:Addr}{ds:List D}{vs:List V}(s:Same G H)(n:H p=none)(h:DenL K G ds vs):Den K (upd G p (.tup vs)) (.tup ds) (.ref p):=
 ⟨p,vs,rfl,bp,h.upd (cz s n) _⟩
def uh{K:KA}{G H:Hp}{p:Addr}{ds:List D}{vs:List V}(s:Same G H)(n:H p=none)(h:DenL K G ds vs):Den K (upd G p (.lst vs)) (.lst ds) (.ref p):=
 ⟨p,vs,rfl,SqL.of bp,h.upd (cz s n) _⟩
def MM{x1}{ms:List Bool}{r:En->ResL}(hm:Hz ms=true)(h:Px X B E ms es r):gj X B E (.Tuple es x1 pos) (iu r):=
 PE.imp (LP h) λU H Q ⟨G,W,R,q⟩=>⟨G,W,R,(XA q).mono λds _ ⟨hl,q⟩ vs G1 H1 e1 al=>by
  have dl:=al.den hm;refine⟨by rw[<-dl.length];exact hl,λp hp=>q _ (upd G1 p (.tup vs)) _ (e1.trans (Ext.new e1.gh _ hp)) (nj e1.gh hp dl)⟩⟩
def Xw{ms:List Bool}{r:En->ResL}(hm:Hz ms=true)(h:Px X B E ms es r):AN X B E (.List es pos) (fm r):=
 PE.imp (LV h) λU H Q ⟨G,W,R,q⟩=>⟨G,W,R,(WB q).mono λds _ ⟨hl,ds',ed,q⟩ vs G1 H1 e1 al=>by
  cases ed;have dl:=al.den hm;refine⟨by rw[<-dl.length];exact hl,λp hp=>q p vs G1 _ (e1.trans (Ext.own e1.gh _ hp)) (cz e1.hh hp) (cz e1.gh hp) bp dl⟩⟩
def Ext.freeze{G H G' H':Hp}{a:Addr}{vs:List V}(e:Ext G H G' H')(hn:H a=none)(gn:G' a=none)(h:H' a=some (.lst vs)):Ext G H (upd G' a (.lst vs)) H':=by
 refine⟨e.gg.trans (d9 gn _),e.hh,λb u q=>?_,λb u q g z=>?_⟩
 ·by_cases z:b=a
  ·subst z;rw[bp]at q;rw[h];exact q
  ·rw[aq z]at q;exact e.gh b u q
 ·rw[aq (bj q hn)];exact e.fr b u q g z
def PY(g:En->Res):Prop:=∀W d,g W=.ok d->∃ds,d=.lst ds
def BG:PY (fm r):=λW d h=>by
 unfold fm at h;cases e:r W with
 |ok ds=>
  rw[e]at h
  by_cases hl:ds.length<=aM
  ·simp only[aJ hl]at h;cases h;exact⟨ds,rfl⟩
  ·simp only[aK hl]at h;cases h
 |er c=>rw[e]at h;cases h
 |st=>rw[e]at h;cases h
def Xx(h:AN X B E e g)(hl:PY g):gj X B E e g:=PE.imp h λU H Q ⟨G,W,R,q⟩=>⟨G,W,R,q.mono λd ed q=>by
 obtain⟨ds,rfl⟩:=hl W d ed;exact⟨ds,rfl,λa vs G' H' e1 hn gn hh dl=>q _ (upd G' a (.lst vs)) H' (e1.freeze hn gn hh) ⟨a,vs,rfl,SqL.of bp,dl.mono (d9 gn _)⟩⟩⟩
def MT(hm:Hz ms=true)(h:Px X B E ms es r):gj X B E (.List es pos) (fm r):=Xx (Xw hm h) BG
end
inductive Out where
 |nx (W:En)
 |bk (W:En)
 |ct (W:En)
 |rt (d:D)
 |er (c:Str)
 |st
def OutP(K:KA)(G0 B:Hp)(E:EK)(G:Hp)(o:Out)(D:Ends):Prop:=match o with
 |.nx W=>∀σ' G' H',Same G G'->EnvR K B G' H' σ' W->Ext G0 B G' H'->D.nx σ' H'
 |.bk W=>∀σ' G' H',Same G G'->EnvR K B G' H' σ' W->Ext G0 B G' H'->D.bk σ' H'
 |.ct W=>∀σ' G' H',Same G G'->EnvR K B G' H' σ' W->Ext G0 B G' H'->D.ct σ' H'
 |.rt d=>∀v G' H',Ext G0 B G' H'->Den K G' d v->D.rt v H'
 |.er c=>∀G' H',Ext G0 B G' H'->E c H'
 |.st=>False
def SH(K:KA)(G0 B:Hp)(E:EK)(F:En->Out):TS:=λD U H=>∃G W,EnvR K B G H U W/\Ext G0 B G H/\OutP K G0 B E G (F W) D
abbrev tq(X:Cx)(G0 B:Hp)(E:EK)(st:Stmt)(F:En->Out):Prop:=PS X st (SH (kx X) G0 B E F)
abbrev zm(X:Cx)(G0 B:Hp)(E:EK)(st:List Stmt)(F:En->Out):Prop:=PSs X st (SH (kx X) G0 B E F)
def PS.imp{X:Cx}{st:Stmt}{t t':TS}(h:PS X st t)(i:∀D U H,t' D U H->t D U H):PS X st t':=λpins s U H D I q=>h pins s U H D I (i D U H q)
def PSs.imp{X:Cx}{st:List Stmt}{t t':TS}(h:PSs X st t)(i:∀D U H,t' D U H->t D U H):PSs X st t':=λpins s U H D I q=>h pins s U H D I (i D U H q)
def OutP.same{K:KA}{G0 B:Hp}{E:EK}{G G1:Hp}{o:Out}{D:Ends}(s:Same G G1)(h:OutP K G0 B E G o D):OutP K G0 B E G1 o D:=by
 cases o with
 |nx W=>exact λσ' G' H' q=>h σ' G' H' (s.trans q)
 |bk W=>exact λσ' G' H' q=>h σ' G' H' (s.trans q)
 |ct W=>exact λσ' G' H' q=>h σ' G' H' (s.trans q)
 |rt d=>exact h
 |er c=>exact h
 |st=>exact h
def Res.then(r:Res)(f:D->Out):Out:=match r with
 |.ok d=>f d
 |.er c=>.er c
 |.st=>.st
def rf{K:KA}{G0 B:Hp}{E:EK}{G H:Hp}{r:Res}{f:D->Out}{D:Ends}(e:Ext G0 B G H)(h:OutP K G0 B E G (r.then f) D):ResP E G H r λd=>OutP K G0 B E G (f d) D:=by
 cases r with
 |ok d=>exact h
 |er c=>exact λG' H' q=>h G' H' (e.trans q)
 |st=>exact h
section
variable{X:Cx}{G0 B:Hp}{E:EK}{e c:Expr}{st:Stmt}{rest ss tt:List Stmt}{F F1 F2:En->Out}{g:En->Res}{pos:Pos}
noncomputable def cn:En->Out:=λW=>.nx W
noncomputable def ao(F1 F2:En->Out):En->Out:=λW=>match F1 W with
 |.nx δ'=>F2 δ'
 |o=>o
def NP:zm X G0 B E [] cn:=PSs.imp ES λD U H ⟨G,W,R,e,q⟩=>q U G H (Same.refl G) R e
def XM{K:KA}{D:Ends}{U:St}{H:Hp}(q:SH K G0 B E (ao F1 F2) D U H):SI (SH K G0 B E F1) (SH K G0 B E F2) D U H:=by
 obtain⟨G,W,R,e,q⟩:=q;refine⟨G,W,R,e,?_⟩;unfold ao at q;cases ef:F1 W with
 |nx δ'=>
  rw[ef]at q;exact λσ' G' H' s R' e'=>⟨G',δ',R',e',OutP.same s q⟩
 |bk δ'=>rw[ef]at q;exact q
 |ct δ'=>rw[ef]at q;exact q
 |rt d=>rw[ef]at q;exact q
 |er c=>rw[ef]at q;exact q
 |st=>rw[ef]at q;exact q
def FD(h1:tq X G0 B E st F1)(h2:zm X G0 B E rest F2):zm X G0 B E (st::rest) (ao F1 F2):=PSs.imp (Yh h1 h2) λD U H q=>XM q
def NO(h1:tq X G0 B E st F1):zm X G0 B E [st] F1:=ER h1
def Rp:En->Out:=λW=>.nx W
def SY{x j pos pos'}:tq X G0 B E (.Expr (.Constant (.str x) j pos) pos') Rp:=PS.imp LH λD U H ⟨G,W,R,e,q⟩=>q U G H (Same.refl G) R e
noncomputable def bw(g:En->Res):En->Out:=λW=>(g W).then .rt
def SU(h:gj X B E e g):tq X G0 B E (.Return (some e) pos) (bw g):=PS.imp (LF h) λD U H ⟨G,W,R,e,q⟩=>⟨G,W,R,(rf e q).mono λd _ q v G' H' e1 dn=>q v G' H' (e.trans e1) dn⟩
noncomputable def i9(c:En->Res)(a b:En->Out):En->Out:=λW=>(c W).then λd=>match d with
 |.bl true=>a W
 |.bl false=>b W
 |_=>.st
def XN(hc:Fi X B E c g)(ha:zm X G0 B E ss F1)(hb:zm X G0 B E tt F2):tq X G0 B E (.If c ss tt pos) (i9 g F1 F2):=
 PS.imp (IY hc ha hb) λD U H ⟨G,W,R,e,q⟩=>⟨G,W,R,(rf e q).mono λd _ q=>by
  cases d with
  |bl t=>cases t with
   |true=>exact⟨true,rfl,λG1 H1 e1=>⟨G1,W,R.ext e1,e.trans e1,OutP.same e1.gg q⟩⟩
   |false=>exact⟨false,rfl,λG1 H1 e1=>⟨G1,W,R.ext e1,e.trans e1,OutP.same e1.gg q⟩⟩
  |non=>exact q.elim
  |int _=>exact q.elim
  |str _=>exact q.elim
  |tup _=>exact q.elim
  |lst _=>exact q.elim
  |dct _ _=>exact q.elim
  |obj _ _=>exact q.elim
  |fn _=>exact q.elim⟩
theorem EnvR.set{K:KA}{G H:Hp}{U:St}{W:En}{i:Nat}{d:D}{v:V}(R:EnvR K B G H U W)(h:Den K G d v):EnvR K B G H (U.set i (some v)) (W.set i (.pu d)) where
 bh:=R.bh
 gb:=R.gb
 gh:=R.gh
 len:=by rw[cC,cC];exact R.len
 sl:=λj s q=>by
  by_cases z:i=j
  ·subst z;have hl:i<W.length:=by
    have:=(List.getElem?_eq_some_iff.mp q).1;rwa [cC]at this
   rw[aS hl]at q;cases q;exact⟨some v,aS (by rw[R.len];exact hl),v,rfl,h⟩
  ·rw[aV z]at q⊢;exact R.sl j s q
 own:=λj s a q1 q2 q3=>by
  by_cases z:i=j
  ·subst z;have hl:i<W.length:=by
    have:=(List.getElem?_eq_some_iff.mp q1).1;rwa [cC]at this
   rw[aS hl]at q1;cases q1;cases q2
  ·rw[aV z]at q1 q3;exact R.own j s a q1 q2 q3
 dis:=λj k s t a q1 q2 q3 q4 q5 q6=>by
  have hj:i≠j:=by
   rintro rfl
   have hl:i<W.length:=by
    have:=(List.getElem?_eq_some_iff.mp q1).1;rwa [cC]at this
   rw[aS hl]at q1;cases q1;cases q3
  have hk:i≠k:=by
   rintro rfl
   have hl:i<W.length:=by
    have:=(List.getElem?_eq_some_iff.mp q2).1;rwa [cC]at this
   rw[aS hl]at q2;cases q2;cases q4
  rw[aV hj]at q1 q5;rw[aV hk]at q2 q6;exact R.dis j k s t a q1 q2 q3 q4 q5 q6
noncomputable def bx(i:Nat)(g:En->Res):En->Out:=λW=>(g W).then λd=>.nx (W.set i (.pu d))
def SS{i:Nat}{x:Str}{pos':Pos}(h:gj X B E e g)(hs:PS X (.Assign [.Name x pos'] e pos) (Mu (OK (kx X) B E g) (ti i))):tq X G0 B E (.Assign [.Name x pos'] e pos) (bx i g):=
 PS.imp hs λD U H ⟨G,W,R,e,q⟩=>⟨G,W,R,(rf e q).mono λd _ q v G' H' e1 dn=>q _ G' H' e1.gg ((R.ext e1).set dn) (e.trans e1)⟩
def EnvR.setO{K:KA}{G H G' H':Hp}{U:St}{W:En}{i:Nat}{ds:List D}{a:Addr}{vs:List V}(R:EnvR K B G H U W)(e:Ext G H G' H')(hn:H a=none)(gn:G' a=none)(hh:H' a=some (.lst vs))(dl:DenL K G' ds vs):
  EnvR K B G' H' (U.set i (some (.ref a))) (W.set i (.ow ds)):=by
 have R':=R.ext e;have bn:B a=none:=cz R.bh hn;have oth:∀(j:Nat) s,W[j]?=some s->s.own=true->U[j]?=some (some (.ref a))->False:=λj s q1 q2 q3=>by
  obtain⟨o,z1,z2⟩:=R.sl j s q1;rw[q3]at z1;cases z1;obtain⟨a',z,u,z3,_⟩:=z2.ref q2;cases z;rw[hn]at z3;cases z3
 have at_i:∀{s:Sl},(W.set i (.ow ds))[i]?=some s->s=.ow ds/\i<W.length:=λq=>by
  have hl:i<W.length:=by
   have:=(List.getElem?_eq_some_iff.mp q).1;rwa [cC]at this
  rw[aS hl]at q;cases q;exact⟨rfl,hl⟩
 refine⟨R'.bh,R'.gh,by rw[cC,cC];exact R.len,λj s q=>?_,λj s b q1 q2 q3=>?_,λj k s t b q1 q2 q3 q4 q5 q6=>?_,R.gb⟩
 ·by_cases z:i=j
  ·subst z;obtain⟨rfl,hl⟩:=at_i q;exact⟨some (.ref a),aS (by rw[R.len];exact hl),a,vs,rfl,hh,dl⟩
  ·rw[aV z]at q⊢;exact R'.sl j s q
 ·by_cases z:i=j
  ·subst z;obtain⟨rfl,hl⟩:=at_i q1;rw[aS (by rw[R.len];exact hl)]at q3;cases q3;exact⟨gn,bn⟩
  ·rw[aV z]at q1 q3;exact R'.own j s b q1 q2 q3
 ·by_cases zj:i=j
  ·subst zj;obtain⟨rfl,hl⟩:=at_i q1;rw[aS (by rw[R.len];exact hl)]at q5;cases q5
   by_cases zk:i=k
   ·exact zk
   ·rw[aV zk]at q2 q6;exact(oth k t q2 q4 q6).elim
  ·rw[aV zj]at q1 q5
   by_cases zk:i=k
   ·subst zk;obtain⟨rfl,hl⟩:=at_i q2;rw[aS (by rw[R.len];exact hl)]at q6;cases q6;exact(oth j s q1 q3 q5).elim
   ·rw[aV zk]at q2 q6;exact R'.dis j k s t b q1 q2 q3 q4 q5 q6
def iz(i:Nat)(g:En->Res):En->Out:=λW=>(g W).then λd=>match d with
 |.lst ds=>.nx (W.set i (.ow ds))
 |_=>.st
def Y4{i:Nat}{x:Str}{pos':Pos}(h:AN X B E e g)(hs:PS X (.Assign [.Name x pos'] e pos) (Mu (YF (kx X) B E g) (ti i))):tq X G0 B E (.Assign [.Name x pos'] e pos) (iz i g):=
 PS.imp hs λD U H ⟨G,W,R,e,q⟩=>⟨G,W,R,(rf e q).mono λd _ q=>by
  cases d with
  |lst ds=>exact⟨ds,rfl,λa vs G' H' e1 hn gn hh dl=>q _ G' H' e1.gg (R.setO e1 hn gn hh dl) (e.trans e1)⟩
  |non=>exact q.elim
  |bl _=>exact q.elim
  |int _=>exact q.elim
  |str _=>exact q.elim
  |tup _=>exact q.elim
  |dct _ _=>exact q.elim
  |obj _ _=>exact q.elim
  |fn _=>exact q.elim⟩
def EnvR.wr{K:KA}{G H:Hp}{U:St}{W:En}{i:Nat}{ds es:List D}{a:Addr}{vs ws:List V}(R:EnvR K B G H U W)(hi:W[i]?=some (.ow ds))(hs:U[i]?=some (some (.ref a)))(ha:H a=some (.lst vs))(dl:DenL K G es ws):
  EnvR K B G (upd H a (.lst ws)) U (W.set i (.ow es)):=by
 obtain⟨gn,bn⟩:=R.own i _ a hi rfl hs;have hl:i<W.length:=(List.getElem?_eq_some_iff.mp hi).1;have sb:∀{F:Hp},F a=none->Same F H->Same F (upd H a (.lst ws)):=λfn s b u q=>by
  rw[aq (bj q fn)];exact s b u q
 have ownEq:∀{j:Nat}{s:Sl},(W.set i (.ow es))[j]?=some s->s.own=true->∃s',W[j]?=some s'/\s'.own=true:=λ{j s} q o=>by
  by_cases z:i=j
  ·subst z;exact⟨_,hi,rfl⟩
  ·rw[aV z]at q;exact⟨s,q,o⟩
 refine⟨sb bn R.bh,sb gn R.gh,by rw[cC];exact R.len,λj s q=>?_,λj s b q1 q2 q3=>?_,λj k s t b q1 q2 q3 q4 q5 q6=>?_,R.gb⟩
 ·by_cases z:i=j
  ·subst z;rw[aS hl]at q;cases q;exact⟨_,hs,a,ws,rfl,bp,dl⟩
  ·rw[aV z]at q;obtain⟨o,z1,z2⟩:=R.sl j s q;refine⟨o,z1,?_⟩;cases s with
   |no=>trivial
   |pu d=>exact z2
   |bo d=>exact z2
   |ow fs=>
    obtain⟨b,us,y1,y2,y3⟩:=z2;have nb:b≠a:=by
     rintro rfl
     subst y1;exact z (R.dis i j _ _ b hi q rfl rfl hs z1)
    exact⟨b,us,y1,by rw[aq nb];exact y2,y3⟩
   |od t fs=>
    cases t with
    |false=>
     obtain⟨b,us,y1,y2,y3⟩:=z2;have nb:b≠a:=by
      rintro rfl
      rw[ha]at y2;cases y2
     exact⟨b,us,y1,by rw[aq nb];exact y2,y3⟩
    |true=>
     obtain⟨b,us,y1,y2,y3⟩:=z2;have nb:b≠a:=by
      rintro rfl
      rw[ha]at y2;cases y2
     exact⟨b,us,y1,by rw[aq nb];exact y2,y3⟩
 ·obtain⟨s',z1,z2⟩:=ownEq q1 q2;exact R.own j s' b z1 z2 q3
 ·obtain⟨s',z1,z2⟩:=ownEq q1 q3;obtain⟨t',y1,y2⟩:=ownEq q2 q4;exact R.dis j k s' t' b z1 y1 z2 y2 q5 q6
def Ext.wr(e:Ext G0 B G H)(gn:G a=none)(bn:B a=none):Ext G0 B G (upd H a o):=
 ⟨e.gg,λb u q=>by rw[aq (bj q bn)];exact e.hh b u q,λb u q=>by rw[aq (bj q gn)];exact e.gh b u q,e.fr⟩
def xb:D->Option (List D)
 |.lst ds=>some ds
 |.tup ds=>some ds
 |_=>none
def turns(tg:D->En->Option En)(F:En->Out):List D->En->Out
 |[],W=>.nx W
 |d::r,W=>match tg d W with
  |none=>.st
  |some δ1=>match F δ1 with
   |.nx δ'=>turns tg F r δ'
   |.ct δ'=>turns tg F r δ'
   |.bk δ'=>.nx δ'
   |.rt d=>.rt d
   |.er c=>.er c
   |.st=>.st
end
section
variable{X:Cx}{G0 B:Hp}{E:EK}{e c tg iter:Expr}{st:Stmt}{rest ss tt:List Stmt}{F F1 F2:En->Out}{g:En->Res}{pos:Pos}
def yd(i:Nat):En->Res:=λW=>match W[i]? with
 |some (.pu d)=>.ok d
 |some (.bo d)=>.ok d
 |_=>.st
def YI(K:KA)(B:Hp)(E:EK)(g:En->Res):TE:=λU H Q=>∃G W,EnvR K B G H U W/\ResP E G H (g W) λd=>∀v G' H',Ext G H G' H'->Arg K G' B d v->Q v H'
abbrev IJ(X:Cx)(B:Hp)(E:EK)(e:Expr)(g:En->Res):Prop:=PE X e (YI (kx X) B E g)
def JS(i:Nat)(h:PE X (.Name x pos) (Fy i)):IJ X B E (.Name x pos) (yd i):=PE.imp h λU H Q ⟨G,W,R,q⟩=>by
 unfold yd at q;cases e:W[i]? with
 |none=>rw[e]at q;exact q.elim
 |some s=>
  rw[e]at q;obtain⟨o,q1,q2⟩:=R.sl i _ e;cases s with
  |pu d=>
   obtain⟨v,q3,q4⟩:=q2;exact⟨v,by rw[q1,q3],q v G H (Ext.refl R.gh) (.inl q4)⟩
  |bo d=>
   obtain⟨v,q3,q4⟩:=q2;exact⟨v,by rw[q1,q3],q v G H (Ext.refl R.gh) q4⟩
  |no=>exact q.elim
  |ow d=>exact q.elim
  |od t d=>exact q.elim
def PH(h:gj X B E e g):IJ X B E e g:=PE.imp h λU H Q ⟨G,W,R,q⟩=>⟨G,W,R,q.mono λd _ q v G' H' x y=>q v G' H' x (.inl y)⟩
def zi(K:KA)(J:It)(ds:List D)(S:Hp->Hp->Prop):Prop:=∀(i:Nat) G H,S G H->Same G H->
 (∀d,ds[i]?=some d->J.go i H/\∀x H',J.yld i H x H'->∃G',Ext G H G' H'/\Den K G' d x)/\(ds.length<=i->J.stop i H)
def ZK(K:KA)(B:Hp)(E:EK)(g:En->ResL):TI:=λU H R=>∃G W,EnvR K B G H U W/\ResLP E G H (g W) λds=>∀J G' H',Ext G H G' H'->zi K J ds (λG2 H2=>Same G' G2/\Same B H2)->R J H'
def ZM(K:KA)(B:Hp)(E:EK)(g:En->ResL):TI:=λU H R=>∃G W,EnvR K B G H U W/\ResLP E G H (g W) λds=>∀J G' H',Ext G H G' H'->zi K J ds (λG2 H2=>Ext G' H' G2 H2)->R J H'
abbrev HZ(X:Cx)(B:Hp)(E:EK)(tg iter:Expr)(g:En->ResL):Prop:=PI X tg iter (ZK (kx X) B E g)
abbrev R9(X:Cx)(B:Hp)(E:EK)(tg iter:Expr)(g:En->ResL):Prop:=PI X tg iter (ZM (kx X) B E g)
def PI.imp(h:PI X tg iter wi)(i:∀U H R,wi' U H R->wi U H R):PI X tg iter wi':=λpins s U H R I q=>h pins s U H R I (i U H R q)
def N8{K:KA}{a:Addr}{G1:Hp}{ds:List D}{vs:List V}{S:Hp->Hp->Prop}(h:∀G H,S G H->Same G H->SqL K H a vs/\Same G1 G)(dl:DenL K G1 ds vs):zi K (WV K a) ds S:=λi G H hS sg=>by
 obtain⟨q,g⟩:=h G H hS sg;refine⟨λd ed=>?_,λhl=>⟨vs,q,by rw[<-dl.length];exact hl⟩⟩;obtain⟨v,ev,dv⟩:=dl.get ed;refine⟨⟨vs,v,q,ev⟩,λx H' ⟨e,y⟩=>?_⟩;subst e;have z:=y vs q;rw[ev]at z;cases z;exact⟨G,Ext.refl sg,dv.mono g⟩
def Wt{K:KA}{a:Addr}{G1:Hp}{ds:List D}{vs:List V}{S:Hp->Hp->Prop}(h:∀G H,S G H->Same G H->SqT K H a vs/\Same G1 G)(dl:DenL K G1 ds vs):zi K (WU K a) ds S:=λi G H hS sg=>by
 obtain⟨q,g⟩:=h G H hS sg;refine⟨λd ed=>?_,λhl=>⟨vs,q,by rw[<-dl.length];exact hl⟩⟩;obtain⟨v,ev,dv⟩:=dl.get ed;refine⟨⟨vs,v,q,ev⟩,λx H' ⟨e,y⟩=>?_⟩;subst e;have z:=y vs q;rw[ev]at z;cases z;exact⟨G,Ext.refl sg,dv.mono g⟩
def i8(lo:Int)(n:Nat):List D:=(bT n).map λ(i:Nat)=>.int (lo+i)
noncomputable def ir(r:En->ResL):En->ResL:=λW=>match r W with
 |.ok [.int j]=>if -(2 ^ 62)<=j/\j<2 ^ 62 then .ok (i8 0 j.toNat)else .st
 |.ok [.int i,.int j]=>if(-(2 ^ 62)<=i/\i<2 ^ 62)/\(-(2 ^ 62)<=j/\j<2 ^ 62)then .ok (i8 i (j - i).toNat)else .st
 |.ok _=>.st
 |.er c=>.er c
 |.st=>.st
def JE{K:KA}{lo:Int}{n:Nat}{S:Hp->Hp->Prop}:zi K (UW lo n) (i8 lo n) S:=λi G H hS sg=>by
 refine⟨λd ed=>?_,λhl=>?_⟩
 ·unfold i8 at ed;rw[bN]at ed;cases e:(bT n)[i]? with
  |none=>rw[e]at ed;cases ed
  |some j=>
   rw[e]at ed;have hi:i<n:=by
    have:=(List.getElem?_eq_some_iff.mp e).1;rwa [eL]at this
   rw[kM hi]at e;cases e;cases ed;exact⟨hi,λx H' ⟨z,y⟩=>by subst z;exact⟨G,Ext.refl sg,y⟩⟩
 ·unfold i8 at hl;rw[aF,eL]at hl;exact hl
def ArgsM.one{K:KA}{G H:Hp}{m:Bool}{d:D}{vs:List V}(h:ArgsM K G H [m] [d] vs):∃v,vs=[v]/\Arg K G H d v:=by
 obtain⟨d',dr,v,vr,h1,h2,h3,h4,h5⟩:=h;cases h1;subst h5;refine⟨v,h2,?_⟩;cases m
 ·exact .inl h3
 ·exact h3
def ArgsM.two{K:KA}{G H:Hp}{m m':Bool}{d d':D}{vs:List V}(h:ArgsM K G H [m,m'] [d,d'] vs):∃v u,vs=[v,u]/\Arg K G H d v/\Arg K G H d' u:=by
 obtain⟨d1,dr,v,vr,h1,h2,h3,h4⟩:=h;cases h1;obtain⟨u,z,au⟩:=ArgsM.one h4;subst z;refine⟨v,u,h2,?_,au⟩;cases m
 ·exact .inl h3
 ·exact h3
def ME(q:ResLP E G H (ir r W) P):ResLP E G H (r W) λds=>
  (∃j,ds=[.int j]/\-(2 ^ 62)<=j/\j<2 ^ 62/\P (i8 0 j.toNat))\/∃i j,ds=[.int i,.int j]/\(-(2 ^ 62)<=i/\i<2 ^ 62/\-(2 ^ 62)<=j/\j<2 ^ 62)/\P (i8 i (j - i).toNat):=by
 unfold ir at q;cases e:r W with
 |ok ds=>
  rw[e]at q;show _\/_;split at q
  ·rename_i z;cases z;split at q
   ·rename_i hc;exact .inl ⟨_,rfl,hc.1,hc.2,q⟩
   ·exact q.elim
  ·rename_i z;cases z;split at q
   ·rename_i hc;exact .inr ⟨_,_,rfl,⟨hc.1.1,hc.1.2,hc.2.1,hc.2.2⟩,q⟩
   ·exact q.elim
  ·exact q.elim
  ·rename_i z;cases z
  ·rename_i z;cases z
 |er c=>rw[e]at q;exact q
 |st=>rw[e]at q;exact q
def Ri{a:Expr}{m:Bool}{r:En->ResL}{p:Pos}(hg:Gl X "range")(hm:X.mg "range"=none)(ha:Px X B E [m] [a] r)(hs:bF [a] X.env=[(false,eval a X.env)]:=by rfl):HZ X B E tg (.Call (.Name "range" p) [a] [] pos) (ir r):=
 PI.imp (Tw hg hm ha hs) λU H R ⟨G,W,Rr,q⟩=>⟨G,W,Rr,(ME q).mono λds _ q vs G1 H1 e1 al=>by
  rcases q with ⟨j,rfl,h1,h2,q⟩|⟨i,j,rfl,_⟩
  ·obtain⟨v,rfl,av⟩:=ArgsM.one al;exact⟨j,by rw[av.int],h1,h2,q _ G1 H1 e1 JE⟩
  ·have:=al.length.1;simp at this⟩
def X8(h:HZ X B E tg iter r):R9 X B E tg iter r:=PI.imp h λU H R ⟨G,W,Rr,q⟩=>⟨G,W,Rr,q.mono λds _ q J G' H' e ok=>q J G' H' e λi G2 H2 x sg=>ok i G2 H2 ⟨x.gg,(Rr.bh.trans e.hh).trans x.hh⟩ sg⟩
structure TgOk(X:Cx)(B:Hp)(tge:Expr)(gl:TG)(tgD:D->En->Option En):Prop where
 pg:PG X tge gl
 ok:∀{G H:Hp}{U:St}{W δ':En}{d:D}{v:V}{Q:St->Hp->Prop},EnvR (kx X) B G H U W->Den (kx X) G d v->tgD d W=some δ'->(∀σ',EnvR (kx X) B G H σ' δ'->Q σ' H)->gl v U H Q
def ar(i:Nat):D->En->Option En:=λd W=>some (W.set i (.pu d))
def GV(h:PG X (.Name x p) (ti i)):TgOk X B (.Name x p) (ti i) (ar i):=⟨h,λR dn e q=>by
 cases e;exact q _ (R.set dn)⟩
noncomputable def c7(tgD:D->En->Option En)(r:En->ResL)(F:En->Out):En->Out:=λW=>match r W with
 |.ok ds=>turns tgD F ds W
 |.er c=>.er c
 |.st=>.st
def WE{K:KA}{tgD:D->En->Option En}{r:En->ResL}{G H:Hp}{W:En}{D:Ends}(e:Ext G0 B G H)(q:OutP K G0 B E G (c7 tgD r F W) D):ResLP E G H (r W) λds=>OutP K G0 B E G (turns tgD F ds W) D:=by
 unfold c7 at q;cases er:r W with
 |ok ds=>rw[er]at q;exact q
 |er c=>rw[er]at q;exact λG' H' x=>q G' H' (e.trans x)
 |st=>rw[er]at q;exact q
def SX{gl:TG}{tgD:D->En->Option En}{r:En->ResL}(hp:PassesOwn (bI X.prog X.w) X.A X.env X.xe)(hc:X.calm=true)(hi:HZ X B E tg iter r)(hg:TgOk X B tg gl tgD)(hb:zm X G0 B E ss F)
  (hs:∀x,hJ iter X.env x=pure x:=by intro _;rfl):tq X G0 B E (.For tg iter ss [] pos) (c7 tgD r F):=
 PS.imp (LG hp hc hi hg.pg hb hs) λD U H ⟨G,W,R,e,q⟩=>⟨G,W,R,(WE e q).mono λds _ q J G1 H1 e1 ok=>by
  refine⟨λi m U H=>m=ds.length - i/\i<=ds.length/\∃G2 δ2,Same G1 G2/\EnvR (kx X) B G2 H U δ2/\Ext G0 B G2 H/\OutP (kx X) G0 B E G2 (turns tgD F (ds.drop i) δ2) D,
   ⟨ds.length,by simp,cT _,G1,W,Same.refl G1,R.ext e1,e.trans e1,OutP.same e1.gg q⟩,?_⟩
  rintro i m σ2 H2 ⟨rfl,hi2,G2,δ2,s2,R2,x2,q2⟩
  obtain⟨okg,oks⟩:=ok i G2 H2 ⟨s2,R2.bh⟩ R2.gh
  by_cases hl:i<ds.length
  ·obtain⟨go,yl⟩:=okg ds[i] (by simp[hl]);rw[eB hl]at q2;refine .inr ⟨go,λσ' H'=>i+1<=ds.length/\∃G3 δ3,Same G1 G3/\EnvR (kx X) B G3 H' σ' δ3/\Ext G0 B G3 H'/\OutP (kx X) G0 B E G3 (turns tgD F (ds.drop (i+1)) δ3) D,
    λσ' H' ⟨n1,n2⟩=>⟨ds.length - (i+1),by lia,rfl,n1,n2⟩,λx H3 y=>?_⟩
   obtain⟨G3,e3,dn⟩:=yl x H3 y;unfold turns at q2;cases et:tgD ds[i] δ2 with
   |none=>rw[et]at q2;exact q2.elim
   |some δ3=>
    rw[et]at q2;dsimp only at q2;refine hg.ok (R2.ext e3) dn et λσ3 R3=>⟨G3,δ3,R3,x2.trans e3,?_⟩;have s3:Same G1 G3:=s2.trans e3.gg;cases ef:F δ3 with
    |nx δ4=>
     rw[ef]at q2;exact λσ' G' H' s R' x'=>⟨hl,G',δ4,s3.trans s,R',x',OutP.same (e3.gg.trans s) q2⟩
    |ct δ4=>
     rw[ef]at q2;exact λσ' G' H' s R' x'=>⟨hl,G',δ4,s3.trans s,R',x',OutP.same (e3.gg.trans s) q2⟩
    |bk δ4=>
     rw[ef]at q2;exact λσ' G' H' s R' x'=>q2 σ' G' H' (e3.gg.trans s) R' x'
    |rt d=>rw[ef]at q2;exact q2
    |er c=>rw[ef]at q2;exact q2
    |st=>rw[ef]at q2;exact q2
  ·have z:i=ds.length:=by lia
   subst z;rw[oG]at q2;exact .inl ⟨oks (aR _),q2 σ2 G2 H2 (Same.refl G2) R2 x2⟩⟩
def bq:List Bool->List D->En
 |_,[]=>[]
 |true::ms,d::ds=>.bo d::bq ms ds
 |false::ms,d::ds=>.pu d::bq ms ds
 |[],_::_=>[]
def df:Out->Res
 |.rt d=>.ok d
 |.nx _=>.ok .non
 |.er c=>.er c
 |_=>.st
def WG(ms:List Bool)(n:Nat)(F:En->Out)(ds:List D):Res:=df (F (bq ms ds++bE (n - ds.length) .no))
def Pb(K:KA)(ms:List Bool)(f:List D->Res):Sp:=λvs H Q E=>vs.length=ms.length/\GOk H/\∃G ds,Same G H/\ArgsM K G H ms ds vs/\ResP (ek K E) G H (f ds) λd=>∀v G' H',Ext G H G' H'->Den K G' d v->Q v H'
theorem Gi{K:KA}{G H:Hp}:∀{ms:List Bool}{ds:List D}{vs:List V},ArgsM K G H ms ds vs->(bq ms ds).length=vs.length
 |[],_,_,⟨h1,h2⟩=>by subst h1;subst h2;rfl
 |m::ms,_,_,⟨d,dr,v,vr,h1,h2,h3,h4⟩=>by
  subst h1;subst h2;have ih:=Gi h4;cases m<;>simp only[bq,aL,ih]
theorem qi{K:KA}{G H:Hp}:∀{ms:List Bool}{ds:List D}{vs:List V},ArgsM K G H ms ds vs->∀(i:Nat) s,(bq ms ds)[i]?=some s->s.own=false/\∃v,vs[i]?=some v/\SlOk K H G H s (some v)
 |[],_,_,⟨h1,h2⟩,i,s,q=>by subst h1;simp[bq]at q
 |m::ms,_,_,⟨d,dr,v,vr,h1,h2,h3,h4⟩,i,s,q=>by
  subst h1;subst h2;cases i with
  |zero=>
   cases m with
   |true=>
    simp only[bq,fU,lK]at q;subst q;exact⟨rfl,v,rfl,v,rfl,h3⟩
   |false=>
    simp only[bq,fU,lK]at q;subst q;exact⟨rfl,v,rfl,v,rfl,h3⟩
  |succ i=>
   cases m with
   |true=>
    simp only[bq,dU]at q;obtain⟨q1,u,q2,q3⟩:=qi h4 i s q;exact⟨q1,u,by simpa using q2,q3⟩
   |false=>
    simp only[bq,dU]at q;obtain⟨q1,u,q2,q3⟩:=qi h4 i s q;exact⟨q1,u,by simpa using q2,q3⟩
def Nz{K:KA}{G H:Hp}{ms:List Bool}{ds:List D}{vs:List V}{N:List Str}(gb:GOk H)(s:Same G H)(al:ArgsM K G H ms ds vs):EnvR K H G H (L2.q8 N vs) (bq ms ds++bE (N.length - ds.length) .no):=by
 have l1:=Gi al;obtain⟨l2,l3⟩:=al.length;have key:∀(i:Nat) t,(bq ms ds++bE (N.length - ds.length) Sl.no)[i]?=some t->t=.no\/(i<vs.length/\(bq ms ds)[i]?=some t):=λi t q=>by
  by_cases z:i<(bq ms ds).length
  ·rw[cW z]at q;exact .inr ⟨by rw[<-l1];exact z,q⟩
  ·rw[dA (by lia)]at q;have:=bY q;exact .inl (List.eq_of_mem_replicate this)
 refine⟨Same.refl H,s,?_,λi t q=>?_,λi t a q1 q2 q3=>?_,λi j t u a q1 q2 q3 q4 q5 q6=>?_,gb⟩
 ·unfold L2.q8;rw[aU,aU,aF,dQ,dQ,l1,l2,l3]
 ·rcases key i t q with rfl|⟨hi,qe⟩
  ·have hl:i<(L2.q8 N vs).length:=by
    have:=(List.getElem?_eq_some_iff.mp q).1;rw[aU,dQ,l1]at this;unfold L2.q8;rw[aU,aF,dQ]
    lia
   exact⟨_,bP hl,trivial⟩
  ·obtain⟨_,v,ev,ok⟩:=qi al i t qe;refine⟨some v,?_,ok⟩;unfold L2.q8;rw[cW (by rw[aF];exact hi),bN,ev];rfl
 ·rcases key i t q1 with rfl|⟨hi,qe⟩
  ·cases q2
  ·obtain⟨z,_⟩:=qi al i t qe;rw[z]at q2;cases q2
 ·rcases key i t q1 with rfl|⟨hi,qe⟩
  ·cases q3
  ·obtain⟨z,_⟩:=qi al i t qe;rw[z]at q3;cases q3
def DM{K:KA}{G H:Hp}{E:EK}{Q:VK}{o:Out}(s:Same G H)(h:ResP E G H (df o) λd=>∀v G' H',Ext G H G' H'->Den K G' d v->Q v H'):
  OutP K G H E G o {nx:=λ_ H'=>Q .non H',rt:=Q}:=by
 cases o with
 |nx W=>exact λσ' G' H' _ _ e=>h .non G' H' e rfl
 |bk W=>exact h.elim
 |ct W=>exact h.elim
 |rt d=>exact λv G' H' e dn=>h v G' H' e dn
 |er c=>exact h
 |st=>exact h
end
section
variable{X:Cx}{B:Hp}{E:EK}{e:Expr}{es:List Expr}{pos p:Pos}{x:Str}
noncomputable def ai(f:List D->Res)(r:En->ResL):En->Res:=λW=>match r W with
 |.ok ds=>f ds
 |.er c=>.er c
 |.st=>.st
def HS(q:ResP E G H (ai f r W) P):ResLP E G H (r W) λds=>ResP E G H (f ds) P:=by
 unfold ai at q;cases e:r W with
 |ok ds=>rw[e]at q;exact q
 |er c=>rw[e]at q;exact q
 |st=>rw[e]at q;exact q
def EM{E:XK}(F:FnOk X.prog X.w X.K X.mg X.base CX k f fd ps (Pb (kx X) ms fD))(hr:Room k X.A)(hg:Gl X x)(hm:X.mg x=some (.ref f))(hk:dI X.K (.ref f)=true)
  (hb:Binds X.K fd ps [])(hx:pj CX X E)(ha:Px X B (ek (kx X) E) ms (e::es) r)(hdb:(x==("__debug__":Str))=false:=by decide)(he:bF (e::es) X.env=(false,eval e X.env)::bF es X.env:=by rfl)(hpl:(fG pos (bF es X.env)).any (·.1)=false:=by rfl):
  gj X B (ek (kx X) E) (.Call (.Name x p) (e::es) [] pos) (ai fD r):=
 PE.imp (DJ F hr hg hm hk hb .nil hx ha hdb he hpl) λU H Q ⟨G,W,R,q⟩=>⟨G,W,R,(HS q).mono λds _ q vs G1 H1 e1 al=>
  ⟨by rw[eM];exact al.length.2,R.gb.same (R.bh.trans e1.hh),G1,ds,e1.gh,by rw[eM];exact al,(q.ext e1).mono λd _ q v G' H' e2 dn=>q v G' H' (e1.trans e2) dn⟩⟩
def Yl{E:XK}(F:FnOk X.prog X.w X.K X.mg X.base CX k f fd ps (Pb (kx X) [] fD))(hr:Room k X.A)(hg:Gl X x)(hm:X.mg x=some (.ref f))(hk:dI X.K (.ref f)=true)
  (hb:Binds X.K fd ps [])(hx:pj CX X E)(hdb:(x==("__debug__":Str))=false:=by decide):gj X B (ek (kx X) E) (.Call (.Name x p) [] [] pos) (λ_=>fD []):=
 PE.imp (X0 F hr hg hm hk hb .nil hx hdb) λU H Q ⟨G,W,R,q⟩=>⟨rfl,R.gb.same R.bh,G,[],R.gh,⟨rfl,rfl⟩,q⟩
end
mutual
def fq:D->Option jC
 |.non=>some .none
 |.bl b=>some (.bool b)
 |.int i=>some (.int i)
 |.str x=>some (.str x)
 |.tup ds=>match fb ds with
  |some ps=>some (.tuple ps)
  |none=>none
 |.lst ds=>match fb ds with
  |some ps=>some (.list ps)
  |none=>none
 |.dct _ _=>none
 |.obj _ _=>none
 |.fn _=>none
def fb:List D->Option (List jC)
 |[]=>some []
 |d::ds=>match fq d with
  | some p => (match fb ds with
   |some ps=>some (p::ps)
   |none=>none)
  |none=>none
end
section
variable{X:Cx}{pins:List (Addr×Obj)}{U:St}{G H:Hp}{s:aN}
mutual
theorem yr(I:Inv X pins U H s)(sg:Same G H):∀{d:D}{v:V}{u:aH}{p:jC},Den (kx X) G d v->RelV v u->fq d=some p->∃as,Reads s.heap u p as
 |.non,v,u,p,h,r,e=>by
  cases (show v=.non from h);cases (show u=bU from r);cases e;exact⟨_,Reads.none⟩
 |.bl b,v,u,p,h,r,e=>by
  cases (show v=.bl b from h);cases (show u=lY b from r);cases e;exact⟨_,Reads.bool b⟩
 |.int i,v,u,p,h,r,e=>by
  cases (show v=.int i from h);obtain⟨t,q⟩:=(show∃t,u=gW i t from r);cases q;cases e;exact⟨_,Reads.int i t⟩
 |.str x,v,u,p,h,r,e=>by
  cases (show v=.str x from h);obtain⟨t,q⟩:=(show∃t,u=pL x t from r);cases q;cases e;exact⟨_,Reads.str x t⟩
 |.tup ds,v,u,p,h,r,e=>by
  obtain⟨a,vs,rfl,sq,dl⟩:=h;cases (show u=bX a from r);unfold fq at e;cases e2:fb ds with
  |none=>rw[e2]at e;cases e
  |some ps=>
   rw[e2]at e;cases e;obtain⟨its,rv,⟨o,ho,hc,n,hd⟩,_⟩:=I.tuple (SqT.of (sg _ _ sq));obtain⟨as,ra⟩:=vk I sg dl rv e2;exact⟨as,Reads.tuple ho hc hd (by simpa using ra)⟩
 |.lst ds,v,u,p,h,r,e=>by
  obtain⟨a,vs,rfl,sq,dl⟩:=h;cases (show u=bX a from r);unfold fq at e;cases e2:fb ds with
  |none=>rw[e2]at e;cases e
  |some ps=>
   rw[e2]at e;cases e;obtain⟨its,rv,pl,_⟩:=I.list (SqL.mono sg sq);obtain⟨o,ho,hc,n,hd⟩:=pl.isList;obtain⟨as,ra⟩:=vk I sg dl rv e2;exact⟨_,Reads.list ho hc hd (by simpa using ra)⟩
 |.dct _ _,_,_,_,_,_,e=>by cases e
 |.obj _ _,_,_,_,_,_,e=>by cases e
 |.fn _,_,_,_,_,_,e=>by cases e
theorem vk(I:Inv X pins U H s)(sg:Same G H):∀{ds:List D}{vs:List V}{us:List aH}{ps:List jC},DenL (kx X) G ds vs->Vals vs us->fb ds=some ps->∃as,ReadsAll s.heap us ps as
 |[],vs,us,ps,h,r,e=>by
  cases (show vs=[]from h);cases r;cases e;exact⟨_,ReadsAll.nil⟩
 |d::ds,vs,us,ps,h,r,e=>by
  obtain⟨v,vr,rfl,dv,dl⟩:=h;cases r with
  |cons rv rr=>
   unfold fb at e;cases e1:fq d with
   |none=>rw[e1]at e;cases e
   |some p=>
    rw[e1]at e;dsimp only at e;cases e2:fb ds with
    |none=>rw[e2]at e;cases e
    |some ps'=>
     rw[e2]at e;cases e;obtain⟨as,ra⟩:=yr I sg dv rv e1;obtain⟨bs,rb⟩:=vk I sg dl rr e2;exact⟨_,ReadsAll.cons ra rb⟩
end
def d5(I:Inv X pins U H s)(sg:Same G H)(h:Arg (kx X) G H d v)(r:RelV v u)(e:fq d=some p):∃as,Reads s.heap u p as:=by
 rcases h with h|⟨ds,a,vs,rfl,rfl,sq,dl⟩|⟨t,kvs,a,rfl,_⟩
 ·exact yr I sg h r e
 ·cases (show u=bX a from r);unfold fq at e;cases e2:fb ds with
  |none=>rw[e2]at e;cases e
  |some ps=>
   rw[e2]at e;cases e;obtain⟨its,rv,pl,_⟩:=I.list sq;obtain⟨o,ho,hc,n,hd⟩:=pl.isList;obtain⟨as,ra⟩:=vk I sg dl rv e2;exact⟨_,Reads.list ho hc hd (by simpa using ra)⟩
 ·cases e
end
def S5(d e:D):Option Bool:=match fq d,fq e with
 |some p,some q=>if cU p && cU q then some (bZ p q)else none
 |_,_=>none
def dj(d e:D):Option D:=(S5 d e).map .bl
def fx(d e:D):Option D:=(S5 d e).map λb=>.bl !b
def Ky(h:S5 d e=some b):∃p q,fq d=some p/\fq e=some q/\cU p=true/\cU q=true/\b=bZ p q:=by
 unfold S5 at h;cases e1:fq d with
 |none=>rw[e1]at h;cases h
 |some p=>
  cases e2:fq e with
  |none=>rw[e1,e2]at h;cases h
  |some q=>
   rw[e1,e2]at h;dsimp only at h
   by_cases hs:(cU p && cU q)=true
   ·rw[aJ hs]at h;cases h;rw[aO]at hs;exact⟨p,q,rfl,rfl,hs.1,hs.2,rfl⟩
   ·rw[aK hs]at h;cases h
section
variable{X:Cx}{B:Hp}{E:EK}{e a b:Expr}{es:List Expr}{g h:En->Res}{pos:Pos}
def FW(K:KA)(neg:Bool):R2:=λx y H Q=>∃G dx dy b,Same G H/\Arg K G H dx x/\Arg K G H dy y/\S5 dx dy=some b/\Q (.bl (if neg then !b else b)) H
def KI(hu:X.A.units+64<eD):OpR X (cN .Eq) (FW (kx X) false):=by
 intro pins s U H x y v u Q I rx ry q;obtain⟨G,dx,dy,b,sg,ax,ay,eb,q⟩:=q;obtain⟨p,p',e1,e2,s1,s2,rfl⟩:=Ky eb;obtain⟨as,ra⟩:=d5 I sg ax rx e1;obtain⟨bs,rb⟩:=d5 I sg ay ry e2;exact eq_dataH ra rb s1 s2 hu ⟨.bl (bZ p p'),H,I,rfl,q⟩
def KB(hu:X.A.units+64<eD):OpR X (cN .NotEq) (FW (kx X) true):=by
 intro pins s U H x y v u Q I rx ry q;obtain⟨G,dx,dy,b,sg,ax,ay,eb,q⟩:=q;obtain⟨p,p',e1,e2,s1,s2,rfl⟩:=Ky eb;obtain⟨as,ra⟩:=d5 I sg ax rx e1;obtain⟨bs,rb⟩:=d5 I sg ay ry e2;exact ne_dataH ra rb s1 s2 hu ⟨.bl (!PyData.eqv p p'),H,I,rfl,q⟩
def EX{K:KA}:ib K dj (FW K false):=λG H x y dx dy d sg ax ay ed Q q=>by
 unfold dj at ed;cases e:S5 dx dy with
 |none=>rw[e]at ed;cases ed
 |some b=>rw[e]at ed;cases ed;exact⟨G,dx,dy,b,sg,ax,ay,e,q _ G H (Ext.refl sg) rfl⟩
def EU{K:KA}:ib K fx (FW K true):=λG H x y dx dy d sg ax ay ed Q q=>by
 unfold fx at ed;cases e:S5 dx dy with
 |none=>rw[e]at ed;cases ed
 |some b=>rw[e]at ed;cases ed;exact⟨G,dx,dy,b,sg,ax,ay,e,q _ G H (Ext.refl sg) rfl⟩
def Jd{o:Option Bool}{f:Bool->Bool}(h:(o.map λb=>D.bl (f b))=some d):∃b,d=.bl b:=by
 cases o with
 |none=>cases h
 |some b=>cases h;exact⟨_,rfl⟩
def M6(f:Int->Int->Option D):D->D->Option D
 |.int i,.int j=>f i j
 |_,_=>none
def Ej:D->D->Option D:=M6 λi j=>some (.int (i - j))
def wd:D->D->Option D:=M6 λi j=>if 0<j then some (.int (i % j))else none
def Ow:D->D->Option D:=M6 λi j=>if 0<j/\j<1073741824 then some (.int (i / j))else none
def Yb{K:KA}{f:Int->Int->Option D}{C:Int->Int->Prop}{r:Int->Int->V}(hf:∀i j d,f i j=some d->C i j/\∀G,Den K G d (r i j)):ib K (M6 f) (rI C r):=λG H x y dx dy d sg ax ay ed Q q=>by
 cases dx with
 |int i=>
  cases dy with
  |int j=>
   obtain⟨c,dn⟩:=hf i j d ed;exact⟨i,j,ax.int,ay.int,c,q _ G H (Ext.refl sg) (dn G)⟩
  |_=>cases ed
 |_=>cases ed
def Rm{K:KA}{f:Int->Int->Option D}{r:Int->Int->V}(hf:∀i j d,f i j=some d->∀G,Den K G d (r i j)):ib K (M6 f) (AO r):=λG H x y dx dy d sg ax ay ed Q q=>by
 cases dx with
 |int i=>
  cases dy with
  |int j=>exact⟨i,j,ax.int,ay.int,q _ G H (Ext.refl sg) (hf i j d ed G)⟩
  |_=>cases ed
 |_=>cases ed
def MN(ha:jq X B E a g)(hb:jq X B E b h):gj X B E (.BinOp a .Sub b pos) (g2 Ej g h):=Mc LZ (Rm λi j d e G=>by cases e;rfl) ha hb
def MS(ha:jq X B E a g)(hb:jq X B E b h):gj X B E (.BinOp a .Mod b pos) (g2 wd g h):=Mc KD (Yb λi j d e=>by
 by_cases hj:0<j
 ·rw[aJ hj]at e;cases e;exact⟨hj,λ_=>rfl⟩
 ·rw[aK hj]at e;cases e) ha hb
def EL(ha:jq X B E a g)(hb:jq X B E b h):gj X B E (.BinOp a .FloorDiv b pos) (g2 Ow g h):=Mc DR (Yb λi j d e=>by
 by_cases hj:0<j/\j<1073741824
 ·rw[aJ hj]at e;cases e;exact⟨hj,λ_=>rfl⟩
 ·rw[aK hj]at e;cases e) ha hb
def Hh(f:Int->Int->Bool):D->D->Option D:=M6 λi j=>some (.bl (f i j))
def Ua:D->D->Option D:=Hh λi j=>decide (i<=j)
def Ef:D->D->Option D:=Hh λi j=>decide (j<i)
def RJ:D->D->Option D:=Hh λi j=>decide (j<=i)
def Eh:D->D->Option D:=Hh λi j=>decide (i<j)
def yq{K:KA}{f:Int->Int->Bool}:ib K (Hh f) (AO λi j=>.bl (f i j)):=Rm λi j d e G=>by cases e;rfl
def Ig:∀x y d,Hh f x y=some d->∃b,d=.bl b:=λx y d h=>by
 cases x<;>cases y<;>first|(cases h;exact⟨_,rfl⟩)|cases h
noncomputable def xa(f f':D->D->Option D)(g h k:En->Res):En->Res:=λW=>(g W).bind λx=>(h W).bind λy=>(Res.of (f x y)).bind λz=>match z with
 |.bl true=>(k W).bind λw=>Res.of (f' y w)
 |.bl false=>.ok (.bl false)
 |_=>.st
def Vm{K:KA}{k:En->Res}{f f':D->D->Option D}{r r':R2}(hp:ib K f r)(hp':ib K f' r'){U:St}{H:Hp}{Q:VK}(q:OK K B E (xa f f' g h k) U H Q):Pg r r' (NN K B E g) (NN K B E h) (NN K B E k) U H Q:=by
 obtain⟨G,W,R,q⟩:=q;refine⟨G,W,R,(ResP.bind q).mono λdx _ qx x G1 H1 e1 ax=>⟨G1,W,R.ext e1,((ResP.bind qx).ext e1).mono λdy _ qy y G2 H2 e2 ay=>?_⟩⟩;have e12:=e1.trans e2;obtain⟨d,ed,qd⟩:=ResP.of (ResP.bind qy);refine hp G2 H2 x y dx dy d e2.gh (ax.ext e2) ay ed _ λv G3 H3 e3 dn=>?_;cases d with
 |bl t=>
  refine⟨t,dn,?_⟩;cases t with
  |true=>
   show NN K B E k U H3 _;refine⟨G3,W,R.ext (e12.trans e3),((ResP.bind qd).ext (e12.trans e3)).mono λdw _ qw w G4 H4 e4 aw=>?_⟩;obtain⟨d',ed',qd'⟩:=ResP.of qw;exact hp' G4 H4 y w dy dw d' e4.gh ((ay.ext e3).ext e4) aw ed' Q λv G5 H5 e5 dn=>qd' v G5 H5 (((e12.trans e3).trans e4).trans e5) dn
  |false=>exact qd _ G3 H3 (e12.trans e3) rfl
 |non=>exact qd.elim
 |int _=>exact qd.elim
 |str _=>exact qd.elim
 |tup _=>exact qd.elim
 |lst _=>exact qd.elim
 |dct _ _=>exact qd.elim
 |obj _ _=>exact qd.elim
 |fn _=>exact qd.elim
def Ym(ho:OpR X (cN op) r)(hp:ib (kx X) f r)(ho':OpR X (cN op') r')(hp':ib (kx X) f' r')(ha:jq X B E a g)(hb:jq X B E b h)(hc:jq X B E c k)
  (hm:pN [op,op'] [b,c]=false:=by with_unfolding_all rfl):gj X B E (.Compare a [op,op'] [b,c] pos) (xa f f' g h k):=PE.imp (X1 ho ho' ha hb hc hm) λU H Q q=>Vm hp hp' q
def T4{c:Expr}{k:En->Res}{op op':CmpOp}{f f':D->D->Option D}{r r':R2}(ho:OpR X (cN op) r)(hp:ib (kx X) f r)(ho':OpR X (cN op') r')(hp':ib (kx X) f' r')(hb1:∀x y d,f' x y=some d->∃b,d=.bl b)(ha:jq X B E a g)(hb:jq X B E b h)(hc:jq X B E c k)
  (hm:pN [op,op'] [b,c]=false:=by with_unfolding_all rfl):Fi X B E (.Compare a [op,op'] [b,c] pos) (xa f f' g h k):=
 PT.imp (Yi ho ho' ha hb hc hm) λU H Q ⟨G,W,R,q⟩=>Vm hp hp' ⟨G,W,R,q.mono λd ed ⟨b,eb,qb⟩ v G' H' e3 dn=>by
  subst eb;exact⟨b,dn,qb G' H' e3⟩⟩
noncomputable def a9:D->D->Option D
 |.int i,.int j=>some (.int (i+j))
 |.str x,.str y=>if x.length+y.length<=aM then some (.str (x++y))else none
 |.lst xs,.lst ys=>if xs.length+ys.length<=aM then some (.lst (xs++ys))else none
 |.tup xs,.tup ys=>if xs.length+ys.length<=aM then some (.tup (xs++ys))else none
 |_,_=>none
def IW(K:KA):R2:=λx y H Q=>∃G dx dy d,Same G H/\Arg K G H dx x/\Arg K G H dy y/\a9 dx dy=some d/\∀v G' H',Ext G H G' H'->Den K G' d v->Q v H'
def U8{prog:bQ}{w:cF}{A:cS}{E:aH->aN->Prop}{s:aN}{l b:Addr}{its its2:List aH}{Q:aH->aN->Prop}(hl:PlainL s.heap l its.toArray)(hb:PlainL s.heap b its2.toArray)(hz:its.length+its2.length<=aM)
  (h:Q (.ref s.heap.objs.size) {s with heap:=s.heap.push {cls:=.type "list",data:=.seq (its++its2).toArray}}):aQ (bI prog w) A (iO .Add (.ref l) (.ref b)) Q E s:=by
 obtain⟨⟨cls,dd,data,sl⟩,n,ho,c,d,q⟩:=hl;obtain⟨⟨cls2,dd2,data2,sl2⟩,n2,ho2,c2,d2,q2⟩:=hb;simp only at c d q c2 d2 q2;subst c d q c2 d2 q2;have ea:its.toArray++its2.toArray=(its++its2).toArray:=by simp
 refine oP ⟨_,ho,rfl⟩ ⟨_,ho2,rfl⟩ noFill_list_add seq_list_add PySem.F.slot_list_add PySem.F.entry_list_add (PySem.F.args_list_add_2 _ _) (list_addW l b its.toArray its2.toArray n n2 _ _ sl sl2 (by simpa using hz)) ⟨ho,ho2,?_⟩;rw[ea];exact h
def Vk{prog:bQ}{w:cF}{A:cS}{E:aH->aN->Prop}{s:aN}{t b:Addr}{vs ws:List aH}{Q:aH->aN->Prop}(ht:jN s.heap t vs.toArray)(hb:jN s.heap b ws.toArray)(hv:vs=[])(h1:Q (.ref b) s):
  aQ (bI prog w) A (iO .Add (.ref t) (.ref b)) Q E s:=by
 obtain⟨⟨cls,dd,data,sl⟩,ho,hc,n,hd⟩:=id ht;obtain⟨⟨cls2,dd2,data2,sl2⟩,ho2,hc2,n2,hd2⟩:=id hb;simp only at hc hd hc2 hd2;subst hc hd hc2 hd2;exact oP ⟨_,ho,rfl⟩ ⟨_,ho2,rfl⟩ oD seq_tuple_add lH lB (kS _ _)
  (tuple_addW0 t b vs.toArray ws.toArray n n2 dd dd2 sl sl2 (by simp[hv])) ⟨ho,ho2,h1⟩
def DT:OpR X (iO .Add) (IW (kx X)):=by
 intro pins s U H x y v u Q I rx ry q;obtain⟨G,dx,dy,d,sg,ax,ay,ed,q⟩:=q;unfold a9 at ed;split at ed
 ·cases ed;rw[ax.int]at rx;rw[ay.int]at ry;exact KJ pins s U H _ _ _ _ Q I rx ry ⟨_,_,rfl,rfl,q _ G H (Ext.refl sg) rfl⟩
 ·split at ed
  ·rename_i hz;cases ed;rw[ax.str]at rx;rw[ay.str]at ry;exact On pins s U H _ _ _ _ Q I rx ry ⟨_,_,rfl,rfl,hz,q _ G H (Ext.refl sg) rfl⟩
  ·cases ed
 ·split at ed
  ·rename_i xs ys hz;cases ed;obtain⟨l,vs,rfl,sq,dl⟩:=ax.lst sg;obtain⟨b,ws,rfl,sq2,dl2⟩:=ay.lst sg;cases rx;cases ry;obtain⟨its,rv,pl,_⟩:=I.list sq;obtain⟨its2,rv2,pl2,_⟩:=I.list sq2;have l1:=dl.length;have l2:=dl2.length;have l3:=rv.length;have l4:=rv2.length;refine U8 pl pl2 (by lia) ⟨.ref _,_,I.lnew (t':=s.toks) (rv.append rv2) (by rw[aU];lia),rfl,?_⟩;exact q _ (upd G s.heap.objs.size (.lst (vs++ws))) _ (Ext.new sg _ I.fresh) (uh sg I.fresh (dl.append dl2))
  ·cases ed
 ·split at ed
  ·rename_i xs ys hz;cases ed;obtain⟨l,vs,rfl,sq,dl⟩:=ax.tup sg;obtain⟨b,ws,rfl,sq2,dl2⟩:=ay.tup sg;have l1:=dl.length;have l2:=dl2.length
   by_cases hx:vs=[]
   ·cases rx;cases ry;obtain⟨its,rv,p1,_⟩:=I.tuple sq;obtain⟨its2,rv2,p2,_⟩:=I.tuple sq2;refine Vk p1 p2 (rv.nil_iff.mpr hx) ⟨.ref b,H,I,rfl,?_⟩;subst hx;have:xs=[]:=by cases xs with
     |nil=>rfl
     |cons _ _=>simp at l1
    subst this;rcases ay with ad|⟨_,_,_,z,_⟩|⟨_,_,_,z,_⟩
    ·exact q _ G H (Ext.refl sg) ad
    ·cases z
    ·cases z
   ·refine DS pins s U H _ _ _ _ Q I rx ry ⟨l,b,vs,ws,rfl,rfl,sq,sq2,hx,by lia,λz=>?_,λz p hp=>?_⟩
    ·subst z;have:ys=[]:=by cases ys with
      |nil=>rfl
      |cons _ _=>simp at l2
     subst this;rw[eM]at q;rcases ax with ad|⟨_,_,_,z,_⟩|⟨_,_,_,z,_⟩
     ·exact q _ G H (Ext.refl sg) ad
     ·cases z
     ·cases z
    ·exact q _ (upd G p (.tup (vs++ws))) _ (Ext.new sg _ hp) (nj sg hp (dl.append dl2))
  ·cases ed
 ·cases ed
def Yc{K:KA}:ib K a9 (IW K):=λG H x y dx dy d sg ax ay ed Q q=>⟨G,dx,dy,d,sg,ax,ay,ed,q⟩
def LB(ha:jq X B E a g)(hb:jq X B E b h):gj X B E (.BinOp a .Add b pos) (g2 a9 g h):=Mc DT Yc ha hb
theorem DenL.atI{K:KA}{G:Hp}{ds:List D}{vs:List V}{i:Int}{d:D}(dl:DenL K G ds vs)(h:atI ds i=some d):∃v,atI vs i=some v/\Den K G d v:=by
 unfold L2.atI at h⊢;rw[dl.length]at h;cases e:U1 vs.length i with
 |none=>rw[e]at h;cases h
 |some j=>
  rw[e]at h;exact dl.get h
def JR{K:KA}{f:D->Option D}{rr:List V->Hp->VK->Prop}(hp:∀G H x dx d,Same G H->Arg K G H dx x->f dx=some d->∀Q:VK,(∀v G' H',Ext G H G' H'->Den K G' d v->Q v H')->rr [x] H Q){U:St}{H:Hp}{Q:VK}(q:OK K B E (g1 f g) U H Q):
  UQ rr (XJ K B E [true] (aa g ah)) U H Q:=by
 obtain⟨G,W,R,q⟩:=q;refine⟨G,W,R,?_⟩;unfold aa;unfold g1 at q;cases e:g W with
 |ok dx=>
  rw[e]at q;obtain⟨d,ed,qd⟩:=ResP.of (show ResP E G H (Res.of (f dx)) _ from q);intro vs G1 H1 e1 al;obtain⟨v,rfl,av⟩:=ArgsM.one al;exact hp G1 H1 v dx d e1.gh av ed Q λv G' H' e2 dn=>qd v G' H' (e1.trans e2) dn
 |er c=>rw[e]at q;exact q
 |st=>rw[e]at q;exact q
noncomputable def bu:D->Option D
 |.str x=>if x.length<=aM then some (.int x.length)else none
 |.tup ds=>some (.int ds.length)
 |.lst ds=>some (.int ds.length)
 |_=>none
def MU{p:Pos}(hg:Gl X "len")(hm:X.mg "len"=none)(ha:jq X B E e g)(he:bF [e] X.env=(false,eval e X.env)::bF [] X.env:=by rfl)(hpl:(fG pos (bF [] X.env)).any (·.1)=false:=by rfl):gj X B E (.Call (.Name "len" p) [e] [] pos) (g1 bu g):=
 PE.imp (n9 Vj hg hm PySem.boot_len (fc ha ip he) (by decide) (by decide) he hpl) λU H Q q=>JR (λG H x dx d sg ax ed Q q=>by
  unfold bu at ed;split at ed
  ·split at ed
   ·rename_i hz;cases ed;rw[ax.str];exact⟨_,_,rfl,⟨hz,rfl⟩,q _ G H (Ext.refl sg) rfl⟩
   ·cases ed
  ·cases ed;obtain⟨l,vs,rfl,sq,dl⟩:=ax.tup sg;exact⟨_,_,rfl,.inr ⟨vs,sq,dl.length⟩,q _ G H (Ext.refl sg) rfl⟩
  ·cases ed;obtain⟨l,vs,rfl,sq,dl⟩:=ax.lst sg;exact⟨_,_,rfl,.inl ⟨vs,sq,dl.length⟩,q _ G H (Ext.refl sg) rfl⟩
  ·cases ed) q
noncomputable def GQ:D->Option String
 |.non=>some "NoneType"
 |.bl _=>some "bool"
 |.int _=>some "int"
 |.str _=>some "str"
 |.tup _=>some "tuple"
 |.lst _=>some "list"
 |.dct _ _=>some "dict"
 |_=>none
def AQ(t c:String):Bool:=t==c||(t=="bool" && c=="int")
def ba(c:String)(d:D):Option D:=match GQ d with
 |some t=>some (.bl (AQ t c))
 |none=>none
end
def vi(h:a<b):a≠b+1:=by lia
def Xe:b+1≠b:=by lia
instance:Inhabited D:=⟨.non⟩
def Ih(I:Nat->aN->Prop)
   (turn:∀n s,I n s->aQ (bI prog w) A (fH it) (λr s₁=>match r with
   |none=>R (.ok .next) s₁
   |some v=>aQ (bI prog w) A (mL target it v) (λ_ s₁=>aQ (bI prog w) A (assign target env v) (λ_ s₂=>
     aQ (bI prog w) A (forIn ifs true λc r=>if r=true then do let ok <-isTrue c env (eval c env);pure (mM ok)else pure (mM r)) (λok s₃=>
      if ok=true then aQ (bI prog w) A (eval elt env) (λx s₄=>
       aQ (bI prog w) A (call (.builtin "list.append") [acc,x]) (λ_ s₅=>∃m,m<n/\I m s₅) (notedBy (bI prog w) A env λe s'=>R (.error e) s') s₄) (notedBy (bI prog w) A env λe s'=>R (.error e) s') s₃
      else∃m,m<n/\I m s₃) (notedBy (bI prog w) A env λe s'=>R (.error e) s') s₂) (notedBy (bI prog w) A env λe s'=>R (.error e) s') s₁) (notedBy (bI prog w) A env λe s'=>R (.error e) s') s₁) (notedBy (bI prog w) A env λe s'=>R (.error e) s') s)
  (n:Nat) (h:I n s):
  hU (bI prog w) A (.compLoop (.ListComp elt [⟨target,iter,ifs,0⟩] scope pos) 0 it acc env) R s:=by
 refine codeAny_loop rfl I (λn s hI=>?_) n h;show aQ _ A ((compTurn (.ListComp elt [⟨target,iter,ifs,0⟩] scope pos) 0 it acc env).onRaise (λx=>do noteFrame x env;theTreesLotGoes x)) _ _ s;refine wpAny_noted ?_;rw[compTurn_list];refine aA (wpAny_standAt (aA (cK (turn n s hI) (λr s₁ h₁=>?_) λ_ _ h'=>h')));cases r with
 |none=>exact aB h₁
 |some v=>
  refine aA (cK h₁ (λ_ s₁' h₁=>?_) λ_ _ h'=>h');refine aA (cK h₁ (λ_ s₂ h₂=>aA (cK h₂ (λok s₃ h₃=>?_) λ_ _ h'=>h')) λ_ _ h'=>h');cases ok with
  |false=>exact aB ⟨rfl,h₃⟩
  |true=>
   exact aA (aA (cK h₃ (λx s₄ h₄=>aA (cK h₄ (λ_ s₅ h₅=>aB (aB ⟨rfl,h₅⟩)) λ_ _ h'=>h')) λ_ _ h'=>h'))
noncomputable def j6(env:Env):List (Str×iP)->List (Str×Addr)->Option (List (Str×Addr))
 |[],cs=>some cs
 | (n, k) :: r, cs => if k = .free then (match env.cells.lookup n with
  |some c=>j6 env r ((n,c)::cs)
  |none=>none)else j6 env r cs
theorem zu(env:Env):∀(names:List (Str×iP))(cs cl:List (Str×Addr)),j6 env names cs=some cl->
  (forIn names cs λx (c:List (Str×Addr))=>(if(x.2==gJ)=true then do let a <-cellOf env x.1;pure (mM ((x.1,a)::c))else pure (mM c):Sem _))=pure cl
 |[],cs,cl,h=>by cases h;rfl
 |(n,k)::r,cs,cl,h=>by
  unfold j6 at h;rw[oX]
  by_cases hk:k=.free
  ·subst hk;simp only[if_true]at h;cases hc:env.cells.lookup n with
   |none=>rw[hc]at h;cases h
   |some c=>
    rw[hc]at h;have:cellOf env n=pure c:=by unfold cellOf;rw[hc]
    simp only[beq_self_eq_true,if_true,this,pure_bind];exact zu env r _ cl h
  ·rw[aK hk]at h;have hb:(k==gJ)=false:=by simpa using hk
   simp only[hb,Bool.false_eq_true,if_false,pure_bind];exact zu env r _ cl h
def vt{scope:gI}(h:j6 env scope.names []=some cl):closureFor scope env=pure cl:=by
 have q:=zu env scope.names [] cl h;unfold closureFor;exact(congrArg (λt=>t>>=λcs=>pure cs) q).trans (pure_bind _ _)
theorem wq(env:Env):∀(names:List (Str×iP))(cs cl:List (Str×Addr)),j6 env names cs=some cl->(∀p∈cs,env.cells.lookup p.1=some p.2)->∀p∈cl,env.cells.lookup p.1=some p.2
 |[],cs,cl,h,q=>by cases h;exact q
 |(n,k)::r,cs,cl,h,q=>by
  unfold j6 at h
  by_cases hk:k=.free
  ·subst hk;simp only[if_true]at h;cases hc:env.cells.lookup n with
   |none=>rw[hc]at h;cases h
   |some c=>
    rw[hc]at h;refine wq env r _ cl h λp hp=>?_;rcases List.mem_cons.mp hp with rfl|hp
    ·exact hc
    ·exact q p hp
  ·rw[aK hk]at h;exact wq env r _ cl h q
theorem ro:∀{l:List (Str×β)}{x:Str}{c:β},l.lookup x=some c->(x,c)∈l
 |[],_,_,h=>by simp at h
 |(n,b)::r,x,c,h=>by
  rw[oH]at h
  by_cases e:x=n
  ·subst e;simp only[beq_self_eq_true]at h;cases h;exact aI
  ·have hb:(x==n)=false:=by simpa using e
   rw[hb]at h;exact aE _ (ro h)
noncomputable def jx(X:Cx)(scope:gI)(cl:List (Str×Addr))(N:List Str)(xs:List Str)(C:Addr)(s₀:aN)(H₀:Hp)(ex:List Addr)(pn:List (Addr×Obj)):Cx where
 prog:=X.prog
 w:=X.w
 K:=(kx X)
 mg:=X.mg
 base:=X.base
 A:=X.A
 N:=N
 s₀:=s₀
 H₀:=H₀
 env:=compEnvC scope cl C X.env
 outer:=X.stack
 stack:=X.stack
 ex:=ex
 fn:=λy=>decide (y∈xs)
 calm:=X.calm
 pn:=pn
 xe:=λ_ _=>False
structure CapOk(X:Cx)(scope:gI)(cl:List (Str×Addr))(y:Str)(i:Nat):Prop where
 at_:X.N[i]?=some y
 vis:PP X.env.scope y
 nloc:X.env.kindOf y≠some .local
 cell:∃c,cl.lookup y=some c
 kind:(mT scope X.env).names.lookup y=some .cell\/(mT scope X.env).names.lookup y=some .free
def Caps(X:Cx)(scope:gI)(cl:List (Str×Addr)):List Str->List Nat->Prop
 |[],ix=>ix=[]
 |y::M,ix=>∃i r,ix=i::r/\CapOk X scope cl y i/\Caps X scope cl M r
theorem Caps.get:∀{M:List Str}{ix:List Nat},Caps X scope cl M ix->∀(j:Nat) y,M[j]?=some y->∃i,ix[j]?=some i/\CapOk X scope cl y i
 |[],_,_,j,y,h=>by simp at h
 |_::_,_,⟨i,r,h1,h2,h3⟩,0,y,h=>by
  simp at h;subst h;subst h1;exact⟨i,rfl,h2⟩
 |_::_,_,⟨i,r,h1,h2,h3⟩,j+1,y,h=>by
  subst h1;obtain⟨k,q1,q2⟩:=Caps.get h3 j y (by simpa using h);exact⟨k,by simpa using q1,q2⟩
theorem Caps.length:∀{M:List Str}{ix:List Nat},Caps X scope cl M ix->M.length=ix.length
 |[],_,h=>by rw[show _=[]from h];rfl
 |_::_,_,⟨i,r,h1,h2,h3⟩=>by rw[h1,aL,aL,Caps.length h3]
structure CompOk(X:Cx)(scope:gI)(cl:List (Str×Addr))(xs:List Str)(M:List Str)(ix:List Nat):Prop where
 clos:j6 X.env scope.names []=some cl
 kind:scope.kind=.function
 ncell:∀y∈scope.names,y.2≠.cell
 names:∀y∈scope.names,y.2=.local->scope.names.lookup y.1=some .local
 loc:∀x∈xs,scope.names.lookup x=some .local
 xcl:∀x∈xs,cl.lookup x=none
 nd:(xs++M).Nodup
 ixd:ix.Nodup
 cap:Caps X scope cl M ix
section
variable{X:Cx}{scope:gI}{cl:List (Str×Addr)}{xs:List Str}{M:List Str}{ix:List Nat}{pins:List (Addr×Obj)}{U:St}{H:Hp}{s:aN}{fp:List Addr}
theorem ox(env:Env):∀(names:List (Str×iP))(cs cl:List (Str×Addr)),j6 env names cs=some cl->∀y,((∃c,cs.lookup y=some c)\/(y,gJ)∈names)->∃c,cl.lookup y=some c
 |[],cs,cl,h,y,q=>by
  cases h;rcases q with q|q
  ·exact q
  ·simp at q
 |(n,k)::r,cs,cl,h,y,q=>by
  unfold j6 at h
  by_cases hk:k=.free
  ·subst hk;simp only[if_true]at h;cases hc:env.cells.lookup n with
   |none=>rw[hc]at h;cases h
   |some c=>
    rw[hc]at h;refine ox env r _ cl h y ?_
    by_cases e:y=n
    ·subst e;exact .inl ⟨c,by simp⟩
    ·rcases q with ⟨c',q⟩|q
     ·refine .inl ⟨c',?_⟩;have hb:(y==n)=false:=by simpa using e
      rw[oH,hb];exact q
     ·rcases List.mem_cons.mp q with z|z
      ·cases z;exact absurd rfl e
      ·exact .inr z
  ·rw[aK hk]at h;refine ox env r _ cl h y ?_;rcases q with q|q
   ·exact .inl q
   ·rcases List.mem_cons.mp q with z|z
    ·cases z;exact absurd rfl hk
    ·exact .inr z
def CompOk.free(O:CompOk X scope cl xs M ix):∀y,(y,gJ)∈scope.names->∃c,cl.lookup y=some c:=λy h=>ox X.env _ _ cl O.clos y (.inr h)
theorem CompOk.cells(O:CompOk X scope cl xs M ix)(h:cl.lookup y=some c):X.env.cells.lookup y=some c:=
 wq X.env _ _ cl O.clos (λp hp=>by simp at hp) (y,c) (ro h)
def Ja{scope:gI}(h:(mT scope env).names.lookup y=some .cell\/(mT scope env).names.lookup y=some .free)(hn:∀z∈scope.names,z.2≠.cell):(y,gJ)∈scope.names:=by
 have key:∃k,(y,k)∈(mT scope env).names/\(k=.cell\/k=.free):=by
  rcases h with h|h
  ·exact⟨_,ro h,.inl rfl⟩
  ·exact⟨_,ro h,.inr rfl⟩
 obtain⟨k,hm,hk⟩:=key;obtain⟨⟨n,k'⟩,hm',e⟩:=List.mem_map.mp hm
 by_cases hc:(k'==gJ && env.scope.kind==.function && env.kindOf n==some .cell)=true
 ·simp only[hc,if_true]at e;cases e;have:k'=.free:=by
   simp only[aO]at hc;simpa using hc.1.1
  subst this;exact hm'
 ·simp only[hc,if_false]at e;cases e;rcases hk with hk|hk
  ·exact absurd hk (hn _ hm')
  ·subst hk;exact hm'
def AD(O:CompOk X scope cl xs M ix)(I:Inv X pins U H s)(hf:∀b∈fp,Bu X pins H b)(hfs:∀b∈fp,b<s.heap.objs.size){h1:Heap}(hk:∀b o,s.heap.get? b=some o->h1.get? b=some o)(hz:h1.objs.size=s.heap.objs.size+1):
  (jx X scope cl (xs++M) xs (s.heap.objs.size+1) {s with heap:=h1,toks:=tk} (upd H s.heap.objs.size (.lst [])) fp (X.pn++pins)).Ok:=by
 have mG:H s.heap.objs.size=none:=I.hok.fresh (aR _);have old:∀{b:Addr}{o:Obj},s.heap.get? b=some o->b≠s.heap.objs.size:=λe z=>by
  have:=aP e;rw[z]at this;exact cO _ this
 have cne:∀y c,cl.lookup y=some c->c<s.heap.objs.size:=λy c e=>by
  obtain⟨v,q⟩:=I.cell y c (O.cells e);exact q.lt
 have kO:=I.ok;refine⟨kO.mod,O.kind,kO.glob,kO.blt,?_,?_,?_,?_,kO.hd,kO.frames,.inl rfl,?_,?_,?_,?_,?_,?_,?_⟩
 ·show h1.objs.size<=s.heap.objs.size+1
  lia
 ·intro a b c h1 h2;exact kO.inj a b c (O.cells h1) (O.cells h2)
 ·intro y hy;have:=Ja (env:=X.env) (scope:=scope) (y:=y) hy O.ncell;exact O.free _ this
 ·intro y c hy hc;have hm:y∈xs:=of_decide_eq_true hy;rw[show(jx X scope cl (xs++M) xs (s.heap.objs.size+1) {s with heap:=h1,toks:=tk} (upd H s.heap.objs.size (.lst [])) fp (X.pn++pins)).env.cells=cl from rfl,O.xcl y hm]at hc;cases hc
 ·intro b hb;have:=hfs b hb;refine⟨?_,λy c e=>?_⟩
  ·exact vi this
  ·exact(hf b hb).2.2.2.2.1 y c (O.cells e)
 ·intro b o e;obtain⟨q1,q2⟩:=I.bs b o e;refine⟨hk b o q1,?_⟩;show upd H s.heap.objs.size (.lst []) b=none;rw[aq (old q1)];exact q2
 ·show X.base.objs.size<=h1.objs.size;have:=kO.bsz;have:=I.sz
  lia
 ·intro b o e hb;rcases(hf b hb).2.2.2.1 with q|q
  ·exact kO.noex b o e q
  ·exact absurd (bS (aP e) (cM kO.bsz q)) (cO _)
 ·intro b hb hfb;rcases List.mem_cons.mp (I.stkSub b hfb)with e|e
  ·exact(hf b hb).2.1 e
  ·exact(hf b hb).2.2.1 e
 ·exact I.stack.of_keeps λb o e _=>⟨o,hk b o e,rfl⟩
 ·intro b hb;show upd H s.heap.objs.size (.lst []) b=none;have q:=I.stkFree b hb;obtain⟨_,o,ho,_⟩:=I.stack.mem hb;rw[aq (old ho)];exact q
def jy(U:St)(ix:List Nat)(os:List (Option V)):St:=os++ix.map λi=>(U[i]?).join
def Nn{os:List (Option V)}(hn:os.length=xs.length)(O:CompOk X scope cl xs M ix):(jy U ix os).length=(xs++M).length:=by
 unfold jy;rw[aU,aU,aF,hn,O.cap.length]
def Vp(O:CompOk X scope cl xs M ix)(I:Inv X pins U H s)(hf:∀b∈fp,Bu X pins H b)(hfs:∀b∈fp,b<s.heap.objs.size){h1 h2:Heap}(hk:∀b o,s.heap.get? b=some o->h1.get? b=some o)(hz:h1.objs.size=s.heap.objs.size+1)
  (ha:h1.get? s.heap.objs.size=some {cls:=.type "list",data:=.seq #[] 0})(hk2:∀b o,h1.get? b=some o->h2.get? b=some o)(hn:h2.Ns (s.heap.objs.size+1) m):
  Inv (jx X scope cl (xs++M) xs (s.heap.objs.size+1) {s with heap:=h1,toks:=tk} (upd H s.heap.objs.size (.lst [])) fp (X.pn++pins)) [] (jy U ix (bE xs.length none)) (upd H s.heap.objs.size (.lst [])) {s with heap:=h2,toks:=tk2}:=by
 have mG:H s.heap.objs.size=none:=I.hok.fresh (aR _);have old:∀{b:Addr}{o:Obj},s.heap.get? b=some o->b≠s.heap.objs.size:=λe z=>by
  have:=aP e;rw[z]at this;exact cO _ this
 have hn1:h1.get? (s.heap.objs.size+1)=none:=mF (by lia);have frC:H (s.heap.objs.size+1)=none:=I.hok.fresh (mH _);refine⟨AD O I hf hfs hk hz,rfl,I.bare,Un.kept hk2,⟨m,hn,?_⟩,?_,?_,?_,?_,?_,Nn dQ O⟩
 ·intro i y v hi hv _
  by_cases hx:i<xs.length
  ·unfold jy at hv;rw[cW (by rw[dQ];exact hx),List.getElem?_replicate_of_lt hx]at hv;cases hv
  ·obtain⟨j,rfl⟩:∃j,i=xs.length+j:=⟨i - xs.length,by lia⟩;have hy:M[j]?=some y:=by
    have q:(xs++M)[xs.length+j]?=some y:=hi;rw[dA (iR _ _)]at q;simpa using q
   obtain⟨k,hk',C⟩:=O.cap.get j y hy;have hv':((ix.map λi=>(U[i]?).join)[j]?)=some (some v):=by
    unfold jy at hv;rw[dA (by rw[dQ];exact iR _ _)]at hv;simpa using hv
   rw[bN,hk']at hv';have hs:(U[k]?).join=some v:=by simpa using hv'
   have hs':U[k]?=some (some v):=by
    cases e:U[k]? with
    |none=>rw[e]at hs;simp at hs
    |some o=>rw[e]at hs;simp at hs;rw[hs]
   obtain⟨mX,_,hl⟩:=I.loc;obtain⟨u,r,lk⟩:=hl k y v C.at_ hs' C.vis;refine⟨u,r,.inr ⟨C.kind,?_⟩⟩;rcases lk with ⟨q,_⟩|⟨_,c,hc,hcell⟩
   ·exact absurd q C.nloc
   ·obtain⟨c',hc'⟩:=C.cell;have:=O.cells hc';rw[hc]at this;cases this;exact⟨c,hc',hcell.keeps λb o e=>hk2 b o (hk b o e)⟩
 ·intro y c hc;obtain⟨v,q⟩:=I.cell y c (O.cells hc);exact⟨v,q.keeps λb o e=>hk2 b o (hk b o e)⟩
 ·show upd H s.heap.objs.size (.lst []) (s.heap.objs.size+1)=none;rw[aq Xe];exact frC
 ·intro y c hc;obtain⟨v,q⟩:=I.cell y c (O.cells hc);have hne:(jx X scope cl (xs++M) xs (s.heap.objs.size+1) {s with heap:=h1,toks:=tk} (upd H s.heap.objs.size (.lst [])) fp (X.pn++pins)).fn y=false:=decide_eq_false λz=>by
   have hc':cl.lookup y=some c:=hc;rw[O.xcl y z]at hc';cases hc'
  rcases I.freeC y c (O.cells hc)with fr|⟨_,o,fr⟩
  ·refine .inl ?_;show upd H s.heap.objs.size (.lst []) c=none;rw[aq (bH q.lt)];exact fr
  ·refine .inr ⟨hne,o,?_⟩;show upd H s.heap.objs.size (.lst []) c=_;rw[aq (bH q.lt)];exact fr
 ·intro p hp;have hp':p∈X.pn++pins:=by simpa[jx]using hp
  obtain⟨q1,q2,q3,q4,q5⟩:=I.pin p hp';refine⟨hk2 _ _ (hk _ _ q1),?_,?_,?_,q5⟩
  ·show upd H s.heap.objs.size (.lst []) p.1=none;rw[aq (old q1)];exact q2
  ·exact vi (aP q1)
  ·intro hfb;rcases List.mem_cons.mp (I.stkSub p.1 hfb)with e|e
   ·exact q3 e
   ·exact q4 e
 ·refine I.hok.laid (λb o e=>hk2 b o (hk b o e)) (aR _) ⟨cT _,[],0,.nil,hk2 _ _ ha⟩
end
noncomputable def lx(f:D->Option (Option D)):List D->Option (List D)
 |[]=>some []
 |d::r=>match f d with
  |none=>none
  |some o=>match lx f r with
   |none=>none
   |some ys=>some (o.toList++ys)
def cc(ix:List Nat)(W:En)(s:Sl):En:=s::ix.map λi=>(W[i]?).getD .no
noncomputable def Br(ix:List Nat)(t:En->Res)(g:En->Res)(W:En)(d:D):Option (Option D):=match t (cc ix W (.pu d))with
 |.ok (.bl true)=>(match g (cc ix W (.pu d))with
  |.ok y=>some (some y)
  |_=>none)
 |.ok (.bl false)=>some none
 |_=>none
noncomputable def b9(r:En->ResL)(ix:List Nat)(t:En->Res)(g:En->Res):En->Res:=λW=>match r W with
 | .ok ds => if ds.length <= aM then (match lx (Br ix t g W) ds with
  |some ys=>.ok (.lst ys)
  |none=>.st)else .st
 |.er c=>.er c
 |.st=>.st
noncomputable def nq(r:En->ResL)(f:En->D->Option (Option D)):En->Res:=λW=>match r W with
 | .ok ds => if ds.length <= aM then (match lx (f W) ds with
  |some ys=>.ok (.lst ys)
  |none=>.st)else .st
 |.er c=>.er c
 |.st=>.st
def Tb:PY (nq r f):=λW d h=>by
 unfold nq at h;split at h
 ·split at h
  ·split at h
   ·cases h;exact⟨_,rfl⟩
   ·cases h
  ·cases h
 ·cases h
 ·cases h
def HR(q:ResP E G H (nq r f W) P):
  ResLP E G H (r W) λds=>ds.length<=aM/\∃ys,lx (f W) ds=some ys/\P (.lst ys):=by
 unfold nq at q;cases e:r W with
 |ok ds=>
  rw[e]at q;dsimp only at q
  by_cases hl:ds.length<=aM
  ·rw[aJ hl]at q;cases e2:lx (f W) ds with
   |none=>rw[e2]at q;exact q.elim
   |some ys=>rw[e2]at q;exact⟨hl,ys,e2,q⟩
  ·rw[aK hl]at q;exact q.elim
 |er c=>rw[e]at q;exact q
 |st=>rw[e]at q;exact q
def m7(ix:List Nat)(W:En):En:=ix.map λi=>(W[i]?).getD .no
def AA{K:KA}{G:Hp}:∀{ds:List D}{vs:List V},DenL K G ds vs->∀{j:Nat}{t:Sl},(ds.map Sl.pu)[j]?=some t->∃d v,t=.pu d/\(vs.map some)[j]?=some (some v)/\Den K G d v:=λ{ds vs} dl j t h=>by
 rw[bN]at h;cases e:ds[j]? with
 |none=>rw[e]at h;cases h
 |some d=>
  rw[e]at h;cases h;obtain⟨v,ev,dv⟩:=dl.get e;exact⟨d,v,rfl,by rw[bN,ev];rfl,dv⟩
def Nm{K:KA}{B G H:Hp}{U:St}{W:En}{ix:List Nat}{ds:List D}{vs:List V}(R:EnvR K B G H U W)(nd:ix.Nodup)(dl:DenL K G ds vs):EnvR K B G H (jy U ix (vs.map some)) (ds.map Sl.pu++m7 ix W):=by
 have key:∀(j:Nat) t,(m7 ix W)[j]?=some t->∃i,ix[j]?=some i/\((t=.no)\/W[i]?=some t)/\(ix.map λi=>(U[i]?).join)[j]?=some ((U[i]?).join):=λj t h=>by
  unfold m7 at h;rw[bN]at h;cases e:ix[j]? with
  |none=>rw[e]at h;cases h
  |some i=>
   rw[e]at h;refine⟨i,rfl,?_,by rw[bN,e];rfl⟩;cases e2:W[i]? with
   |none=>rw[fW,e2]at h;cases h;exact .inl rfl
   |some u=>rw[fW,e2]at h;cases h;exact .inr rfl
 have jo:∀(i:Nat) a,(U[i]?).join=some (V.ref a)->U[i]?=some (some (.ref a)):=λi a h=>by
  cases e:U[i]? with
  |none=>rw[e]at h;simp at h
  |some o=>rw[e]at h;simp at h;rw[h]
 have hl:(vs.map some).length=(ds.map Sl.pu).length:=by rw[aF,aF,dl.length]
 have at_:∀{j:Nat}{t:Sl},(ds.map Sl.pu++m7 ix W)[j]?=some t->(∃d v,t=.pu d/\(jy U ix (vs.map some))[j]?=some (some v)/\Den K G d v)\/∃k,j=ds.length+k/\(m7 ix W)[k]?=some t/\(jy U ix (vs.map some))[j]?=(ix.map λi=>(U[i]?).join)[k]?:=λ{j t} h=>by
  unfold jy
  by_cases hj:j<(ds.map Sl.pu).length
  ·rw[cW hj]at h;rw[cW (by rw[hl];exact hj)];exact .inl (AA dl h)
  ·obtain⟨k,rfl⟩:∃k,j=ds.length+k:=⟨j - ds.length,by rw[aF]at hj;lia⟩;rw[dA (by rw[aF];exact iR _ _),aF,Nat.add_sub_cancel_left]at h;exact .inr ⟨k,rfl,h,by rw[dA (by rw[hl,aF];exact iR _ _),hl,aF,Nat.add_sub_cancel_left]⟩
 refine⟨R.bh,R.gh,?_,λj t h=>?_,λj t a h1 h2 h3=>?_,λj k t u a h1 h2 h3 h4 h5 h6=>?_,R.gb⟩
 ·unfold jy m7;rw[aU,aU,hl,aF (as:=ix),aF (as:=ix)]
 ·rcases at_ h with ⟨d,v,rfl,e,dv⟩|⟨k,rfl,h,e⟩
  ·exact⟨some v,e,v,rfl,dv⟩
  ·obtain⟨i,q1,q2,q3⟩:=key k t h;refine⟨_,e.trans q3,?_⟩;rcases q2 with rfl|q2
   ·trivial
   ·obtain⟨o',z1,z2⟩:=R.sl i t q2;rw[z1];exact z2
 ·rcases at_ h1 with ⟨d,v,rfl,e,dv⟩|⟨k,rfl,h,e⟩
  ·cases h2
  ·obtain⟨i,q1,q2,q3⟩:=key k t h;rw[e,q3]at h3;rcases q2 with rfl|q2
   ·cases h2
   ·exact R.own i t a q2 h2 (jo i a (bM h3))
 ·rcases at_ h1 with ⟨d,v,rfl,e,dv⟩|⟨j',rfl,h,e⟩
  ·cases h3
  ·rcases at_ h2 with ⟨d,v,rfl,e',dv⟩|⟨k',rfl,h',e'⟩
   ·cases h4
   ·obtain⟨i,q1,q2,q3⟩:=key j' t h;obtain⟨i',y1,y2,y3⟩:=key k' u h';rw[e,q3]at h5;rw[e',y3]at h6;rcases q2 with rfl|q2
    ·cases h3
    ·rcases y2 with rfl|y2
     ·cases h4
     ·have z:=R.dis i i' t u a q2 y2 h3 h4 (jo i a (bM h5)) (jo i' a (bM h6));subst z;have lj:j'<ix.length:=(List.getElem?_eq_some_iff.mp q1).1;rw[(List.getElem?_inj lj nd).mp (q1.trans y1.symm)]
structure TgB(X:Cx)(n:Nat)(tg:Expr)(td:D->Option (List D)):Prop where
 ex:∃gl,PG X tg gl/\∀{G H:Hp}{os:List (Option V)}{cs:St}{d:D}{v:V}{ds:List D}{Q:St->Hp->Prop},os.length=n->Same G H->Den (kx X) G d v->td d=some ds->(∀vs,DenL (kx X) G ds vs->vs.length=n->Q (vs.map some++cs) H)->gl v (os++cs) H Q
section
variable{X:Cx}{B:Hp}{E:EK}{scope:gI}{cl:List (Str×Addr)}{xs:List Str}{M:List Str}{ix:List Nat}{elt iter:Expr}{ifs:List Expr}{pos:Pos}{r:En->ResL}{t g:En->Res}{tg:Expr}{td:D->Option (List D)}
abbrev EF:EK:=λ_ _=>False
structure BlockOk(X:Cx)(B:Hp)(E:EK)(scope:gI)(cl:List (Str×Addr))(xs:List Str)(M:List Str)(tg:Expr)(td:D->Option (List D))(elt:Expr)(ifs:List Expr)(t g:En->Res):Prop where
 tgt:∀C s₀ H₀ ex pn,TgB (jx X scope cl (xs++M) xs C s₀ H₀ ex pn) xs.length tg td
 test:(ifs=[]/\t=gC (.bl true))\/∃c,ifs=[c]/\∀C s₀ H₀ ex pn,Fi (jx X scope cl (xs++M) xs C s₀ H₀ ex pn) B EF c t
 elt:∀C s₀ H₀ ex pn,gj (jx X scope cl (xs++M) xs C s₀ H₀ ex pn) B EF elt g
def UP(d:D):Option (List D):=some [d]
def R0(O:CompOk X scope cl [x] M ix)(C s₀ H₀ ex pn):TgB (jx X scope cl ([x]++M) [x] C s₀ H₀ ex pn) 1 (.Name x px) UP:=
 ⟨_,Cj (i:=0) O.nd rfl (.inl (mI (O.loc x aI))) (.inl (decide_eq_true aI)),λ{G H os cs d v ds Q} h0 sg dn e q=>by
  cases e
  match os,h0 with
  |[o],_=>exact q [v] (DenL.one dn) rfl⟩
def OJ:D->Option (List D)
 |.tup [a,b]=>some [a,b]
 |_=>none
def Zn(O:CompOk X scope cl [x,y] M ix)(hc:X.calm=true)(C s₀ H₀ ex pn):TgB (jx X scope cl ([x,y]++M) [x,y] C s₀ H₀ ex pn) 2 (.Tuple [.Name x px,.Name y py] k tp) OJ:=
 ⟨_,X6 (X:=jx X scope cl ([x,y]++M) [x,y] C s₀ H₀ ex pn) hc (Eb (Cj (i:=0) O.nd rfl (.inl (mI (O.loc x aI))) (.inl (decide_eq_true aI)))
  (Eb (Cj (i:=1) O.nd rfl (.inl (mI (O.loc y (aE _ aI)))) (.inl (decide_eq_true (aE _ aI)))) Rh)),λ{G H os cs d v ds Q} h0 sg dn e q=>by
  unfold OJ at e;split at e
  ·rename_i a b;cases e;obtain⟨l,vs,rfl,sq,dl⟩:=dn;obtain⟨v1,r1,rfl,d1,v2,r2,rfl,d2,e3⟩:=dl;cases e3
   match os,h0 with
   |[o1,o2],_=>exact⟨l,[v1,v2],rfl,SqT.of (sg _ _ sq),rfl,v1,_,rfl,v2,_,rfl,rfl,q [v1,v2] ⟨v1,_,rfl,d1,v2,_,rfl,d2,rfl⟩ rfl⟩
  ·cases e⟩
def Cr(td:D->Option (List D))(cap:En)(t g:En->Res)(f:D->Option (Option D)):Prop:=∀d o,f d=some o->∃ds,td d=some ds/\
 ((t (ds.map Sl.pu++cap)=.ok (.bl true)/\∃y,g (ds.map Sl.pu++cap)=.ok y/\o=some y)\/(t (ds.map Sl.pu++cap)=.ok (.bl false)/\o=none))
def Bq(ix:List Nat)(g:En->Res)(W:En)(d:D):Option (Option D):=match OJ d with
 |some ds=>(match g (ds.map Sl.pu++ix.map λi=>(W[i]?).getD .no)with
  |.ok y=>some (some y)
  |_=>none)
 |none=>none
def NF:Cr OJ (m7 ix W) (gC (.bl true)) g (Bq ix g W):=λd o h=>by
 unfold Bq at h;split at h
 ·rename_i ds e;split at h
  ·rename_i y hg;cases h;exact⟨ds,e,.inl ⟨rfl,y,hg,rfl⟩⟩
  ·cases h
 ·cases h
def Zt:Cr UP (m7 ix W) t g (Br ix t g W):=λd o h=>by
 refine⟨[d],rfl,?_⟩
 ·unfold Br at h;have e:[d].map Sl.pu++m7 ix W=cc ix W (.pu d):=rfl;rw[e];split at h
  ·rename_i ht;split at h
   ·rename_i y hg;cases h;exact .inl ⟨ht,y,hg,rfl⟩
   ·cases h
  ·rename_i ht;cases h;exact .inr ⟨ht,rfl⟩
  ·cases h
def ResP.ok0{G H:Hp}{r:Res}{P:D->Prop}(d:D)(e:r=.ok d)(h:P d):ResP EF G H r P:=by rw[e];exact h
def CJ(Y:Cx)(a:Addr)(k:Nat)(U:St)(ix:List Nat)(fp:List Addr)(tn:Nat->Heap->Prop)(G H:Hp)(f:D->Option (Option D))(ds ys:List D)(n:Nat)(s1:aN):Prop:=
 ∃i os H1 G1 vs zs rest,os.length=k/\n=ds.length - i/\i<=ds.length/\Inv Y [] (jy U ix os) H1 s1/\tn i s1.heap/\(∀b∈fp,H1 b=none)/\
   H1 a=some (.lst vs)/\G1 a=none/\Ext G H G1 H1/\DenL (kx Y) G1 zs vs/\zs.length<=i/\lx f (ds.drop i)=some rest/\ys=zs++rest
def Sm{Y:Cx}{a:Addr}{k:Nat}{U:St}{W:En}{G H:Hp}{s:aN}{it:Addr}{fp:List Addr}{tn:Nat->Heap->Prop}{J:It}{ds ys:List D}{f:D->Option (Option D)}{RR:Result->aN->Prop}{n:Nat}
  (TB:TgB Y k tg td)(TE:gj Y B EF elt g)(TT:(ifs=[]/\t=gC (.bl true))\/∃c,ifs=[c]/\Fi Y B EF c t)(hc:Y.calm=true)(hx:∀v s,Y.xe v s->False)(T:Turn Y.prog Y.w (kx Y) tg J fp it tn)(hfC:∀{H1:Hp},(∀b∈fp,H1 b=none)->∀b∈fp,Bu Y [] H1 b)
  (R:EnvR (kx Y) B G H U W) (ixd:ix.Nodup) (mG:H a=none) (ok:zi (kx Y) J ds (λG2 H2=>Ext G H G2 H2)) (hl:ds.length<=aM) (hF:Cr td (m7 ix W) t g f)
  (fin:∀s1 H1 G1 vs os,Inv Y [] (jy U ix os) H1 s1->H1 a=some (.lst vs)->G1 a=none->Ext G H G1 H1->DenL (kx Y) G1 ys vs->RR (.ok .next) s1)
  (j:CJ Y a k U ix fp tn G H f ds ys n s):hU (bI Y.prog Y.w) Y.A (.compLoop (.ListComp elt [⟨tg,iter,ifs,0⟩] scope pos) 0 (.ref it) (.ref a) Y.env) RR s:=by
 have noE:∀{F:aH->aN->Prop}(v:aH)(s':aN),Y.xe v s'->F v s':=λv s' q=>(hx v s' q).elim;refine Ih (CJ Y a k U ix fp tn G H f ds ys) ?_ n j
 rintro n s1 ⟨i,os,H1,G1,vs,zs,rest,hos,rfl,hi,I1,st1,fr1,ha1,ga1,x1,dl1,zl,er,eys⟩
 obtain⟨okg,oks⟩:=ok i G1 H1 x1 x1.gh
 by_cases hlt:i<ds.length
 ·obtain⟨go,yl⟩:=okg ds[i] (bP hlt);rw[eB hlt]at er;unfold lx at er;cases ef:f ds[i]with
  |none=>rw[ef]at er;cases er
  |some oy=>
  rw[ef]at er;dsimp only at er;cases er2:lx f (ds.drop (i+1))with
  |none=>rw[er2]at er;cases er
  |some rest2=>
  rw[er2]at er;obtain rfl:oy.toList++rest2=rest:=bM er;refine cK (T.item Y rfl rfl rfl hc i [] s1 _ H1 _ I1 (hfC fr1) st1 go) (λrr s2 ⟨u,hr,h2⟩=>?_) noE;subst hr;refine cK h2 (λ_ s3 ⟨xv,H3,I3,r3,y3,st3,fr3⟩=>?_) noE;obtain⟨G3,e3,dn⟩:=yl xv H3 y3;have I3':=I3.pinned (hfC fr3) (T.obj _ _ st3);have x3:=x1.trans e3;have ha3:=e3.hh _ _ ha1;have ga3:=e3.fr _ _ ha1 ga1 rfl;obtain⟨dx,htd,hor⟩:=hF _ _ ef;obtain⟨gl,TO1,TO2⟩:=TB.ex;refine cK (TO1 _ s3 _ H3 xv u (λσ' H'=>H'=H3/\∃vx,DenL (kx Y) G3 dx vx/\vx.length=k/\σ'=jy U ix (vx.map some)) I3' r3 (TO2 hos e3.gh dn htd λvx dl hv=>⟨rfl,vx,dl,hv,rfl⟩)) (λ_ s4 ⟨σ4,H4,I4,e4,vx,dlx,hvx,e5⟩=>?_) noE;subst e4 e5;have R4:=Nm (R.ext x3) ixd dlx;have next:∀{s5:aN}{H5:Hp}{G5:Hp}{us:List V}{ws:List D},Inv Y ([]++Am fp s3.heap) (jy U ix (vx.map some)) H5 s5->
    H5 a=some (.lst us)->G5 a=none->Ext G H G5 H5->DenL (kx Y) G5 ws us->ws=zs++oy.toList->∃m,m<ds.length - i/\CJ Y a k U ix fp tn G H f ds ys m s5:=λ{s5 H5 G5 us ws} I5 ha5 ga5 x5 dl5 ew=>by
   have pn:=λb hb ob e=>I5.pin (b,ob) (eI _ (eI _ (xh hb e)));refine⟨_,Nat.sub_succ_lt_self _ _ hlt,i+1,vx.map some,H5,G5,us,ws,rest2,(aF _).trans hvx,rfl,hlt,I5.unpinned,T.keep _ _ _ st3 λb hb ob e=>(pn b hb ob e).1,λb hb=>?_,ha5,ga5,x5,dl5,?_,er2,?_⟩
   ·obtain⟨ob,e,d⟩:=T.obj _ _ st3 b hb;exact(pn b hb ob e).2.1
   ·rw[ew,aU];exact Nat.add_le_add zl (by cases oy<;>simp)
   ·rw[ew,lM];exact eys
  have val:∀{s5:aN}{H5 G5:Hp},Inv Y ([]++Am fp s3.heap) (jy U ix (vx.map some)) H5 s5->Ext G3 H4 G5 H5->∀y,g (dx.map Sl.pu++m7 ix W)=.ok y->oy=some y->∀{F:aH->aN->Prop},
    aQ (bI Y.prog Y.w) Y.A (eval elt Y.env) (λxx s₄=>aQ (bI Y.prog Y.w) Y.A (call (.builtin "list.append") [.ref a,xx]) (λ_ s₅=>∃m,m<ds.length - i/\CJ Y a k U ix fp tn G H f ds ys m s₅) F s₄) F s5:=λ{s5 H5 G5} I5 e5 y eg eo F=>by
    refine cK (TE _ s5 _ H5 (λv H6=>∃G6,Ext G5 H5 G6 H6/\Den (kx Y) G6 y v) I5 ⟨G5,_,R4.ext e5,ResP.ok0 y eg λv G6 H6 e6 d6=>⟨G6,e6,d6⟩⟩) (λxx s6 ⟨v6,H6,I6,r6,G6,e6,d6⟩=>?_) noE;have e56:=e5.trans e6;have ga6:=e56.fr _ _ ha3 ga3 rfl;refine cK (G8 _ s6 _ H6 (.ref a) [v6] (.ref a) [xx] (λ_ H7=>H7=upd H6 a (.lst (vs++[v6]))) I6 rfl (.cons r6 .nil) ⟨_,vs,v6,rfl,rfl,e56.hh _ _ ha3,?_,rfl⟩) (λ_ s7 ⟨_,H7,I7,_,e7⟩=>?_) noE
    ·rw[<-dl1.length];exact Nat.lt_of_le_of_lt zl (bS hlt hl)
    ·subst e7;exact next I7 bp ga6 ((x3.trans e56).wr ga6 mG) ((dl1.mono (e3.gg.trans e56.gg)).append (DenL.one d6)) (by rw[eo];rfl)
  rcases TT with ⟨rfl,rfl⟩|⟨c,rfl,ht⟩
  ·refine wpAny_tests_nil ?_;rcases hor with ⟨_,y,eg,eo⟩|⟨hb,_⟩
   ·exact val I4 (Ext.refl R4.gh) y eg eo
   ·cases hb
  ·refine wpAny_tests_one ?_;rcases hor with ⟨et,y,eg,eo⟩|⟨et,eo⟩
   ·refine cK (ht _ s4 _ H4 (λb H6=>b=true/\∃G6,Ext G3 H4 G6 H6) I4 ⟨G3,_,R4,ResP.ok0 (.bl true) et ⟨true,rfl,λG6 H6 e6=>⟨rfl,G6,e6⟩⟩⟩) (λb s6 ⟨H6,I6,eb,G6,e6⟩=>?_) noE;subst eb;exact val I6 e6 y eg eo
   ·refine cK (ht _ s4 _ H4 (λb H6=>b=false/\∃G6,Ext G3 H4 G6 H6) I4 ⟨G3,_,R4,ResP.ok0 (.bl false) et ⟨false,rfl,λG6 H6 e6=>⟨rfl,G6,e6⟩⟩⟩) (λb s6 ⟨H6,I6,eb,G6,e6⟩=>?_) noE;subst eb;exact next I6 (e6.hh _ _ ha3) (e6.fr _ _ ha3 ga3 rfl) (x3.trans e6) (dl1.mono (e3.gg.trans e6.gg)) (by rw[eo];exact(eM _).symm)
 ·obtain rfl:i=ds.length:=Nat.le_antisymm hi (oF hlt);rw[oG]at er;obtain rfl:[]=rest:=bM er;rw[eM]at eys;subst eys;refine cK (T.done Y rfl rfl rfl hc _ [] s1 _ H1 _ I1 (hfC fr1) st1 (oks (aR _))) (λrr s2 ⟨hr,I2⟩=>?_) noE;subst hr;exact fin s2 H1 G1 vs os I2 ha1 ga1 x1 dl1
def Km(O:CompOk X scope cl xs M ix)(hc:X.calm=true)(Bk:BlockOk X B E scope cl xs M tg td elt ifs t g){pins:List (Addr×Obj)}{U:St}{W:En}{G H:Hp}{s:aN}{it:Addr}{fp:List Addr}{tn:Nat->Heap->Prop}{J:It}{ds ys:List D}{f:D->Option (Option D)}
  (I:Inv X pins U H s)(T:Turn X.prog X.w (kx X) tg J fp it tn)(st:tn 0 s.heap)(hf:∀b∈fp,Bu X pins H b)(R:EnvR (kx X) B G H U W)(ok:zi (kx X) J ds (λG2 H2=>Ext G H G2 H2))(hl:ds.length<=aM)(hF:Cr td (m7 ix W) t g f)(ey:lx f ds=some ys)
  {RR:aH->Addr->Result->aN->Prop}
  (fin:∀s1 H1 G1 vs m,Inv X pins U H1 s1->s1.heap.Ns (s.heap.objs.size+1) m->H1 (s.heap.objs.size+1)=none->Ext G H G1 H1->G1 s.heap.objs.size=none->H1 s.heap.objs.size=some (.lst vs)->DenL (kx X) G1 ys vs->RR (.ref s.heap.objs.size) (s.heap.objs.size+1) (.ok .next) s1):
  aQ (bI X.prog X.w) X.A (newList []) (λacc s₃=>aQ (bI X.prog X.w) X.A (newFunctionEnv scope X.env.globals cl [] X.env.qual none .none (some X.env)) (λcenv s₄=>
   hU (bI X.prog X.w) X.A (.compStart (.ListComp elt [⟨tg,iter,ifs,0⟩] scope pos) 0 (.ref it) acc {cenv with scope:=mT scope X.env}) (RR acc cenv.locals) s₄) X.xe s₃) X.xe s:=by
 have hfs:∀b∈fp,b<s.heap.objs.size:=λb hb=>by
  obtain⟨o,e,_⟩:=T.obj 0 _ st b hb;exact aP e
 refine cD (wpAny_newFunctionEnv O.ncell (by intro y hy;simp at hy) (λh₂ hns₂ hsb₂=>?_) O.kind);dsimp only at hns₂ hsb₂⊢;generalize hH2:s.heap.push {cls:=.type "list",dict:=none,data:=.seq ([]:List aH).toArray}=h₁ at hns₂ hsb₂⊢;have hz:h₁.objs.size=s.heap.objs.size+1:=by rw[<-hH2,dB]
 rw[hz]at hns₂ hsb₂⊢;have hk:∀b o,s.heap.get? b=some o->h₁.get? b=some o:=λb o e=>by rw[<-hH2];exact aC _ e
 have hk2:∀b o,h₁.get? b=some o->h₂.get? b=some o:=λb o e=>by
  have:b<s.heap.objs.size+1:=by rw[<-hz];exact aP e
  exact hsb₂.extBut b o (bH this) (aC _ e)
 have ha:h₁.get? s.heap.objs.size=some {cls:=.type "list",data:=.seq #[] 0}:=by rw[<-hH2];exact aT _ rfl
 have I0:=Vp (tk:=s.toks) (tk2:=s.toks+([]:List (Str×aH)).length) O I hf hfs hk hz ha hk2 hns₂;have mG:H s.heap.objs.size=none:=I.hok.fresh (aR _);have e0:Ext G H G (upd H s.heap.objs.size (.lst [])):=Ext.own R.gh _ mG;have g0:G s.heap.objs.size=none:=cz R.gh mG;have hfC:∀{H1:Hp},(∀b∈fp,H1 b=none)->∀b∈fp,Bu (jx X scope cl (xs++M) xs (s.heap.objs.size+1) {s with heap:=h₁,toks:=s.toks} (upd H s.heap.objs.size (.lst [])) fp (X.pn++pins)) [] H1 b:=λ{H1} hn b hb=>by
  obtain⟨f0,f1,f2,f3,f4,f5⟩:=hf b hb;refine⟨hn b hb,?_,?_,.inl hb,λy c e=>f4 y c (O.cells e),λp hp=>f5 p (by simpa[jx]using hp)⟩
  ·exact vi (hfs b hb)
  ·intro hfb;rcases List.mem_cons.mp (I.stkSub b hfb)with e|e
   ·exact f1 e
   ·exact f2 e
 have loop:hU (bI X.prog X.w) X.A (.compLoop (.ListComp elt [⟨tg,iter,ifs,0⟩] scope pos) 0 (.ref it) (.ref s.heap.objs.size) (compEnvC scope cl (s.heap.objs.size+1) X.env)) (RR (.ref s.heap.objs.size) (s.heap.objs.size+1))
   {s with heap:=h₂,toks:=s.toks+([]:List (Str×aH)).length}:=
  Sm (Y:=jx X scope cl (xs++M) xs (s.heap.objs.size+1) {s with heap:=h₁,toks:=s.toks} (upd H s.heap.objs.size (.lst [])) fp (X.pn++pins)) (Bk.tgt _ _ _ _ _) (Bk.elt _ _ _ _ _) (Bk.test.imp_right λ⟨c,e,h⟩=>⟨c,e,h _ _ _ _ _⟩) hc (λ_ _ q=>q) T hfC R O.ixd mG ok hl hF
   (λs2 H1 G1 vs os I2 ha1 ga1 x1 dl1=>by
    obtain⟨m2,hm2,_⟩:=I2.loc;have u1:Un (Ft X.stack) fp H (upd H s.heap.objs.size (.lst [])) s.heap h₁:=Un.laid hk (aR _) mG;have u2:Un (Ft X.stack) fp (upd H s.heap.objs.size (.lst [])) H1 h₁ s2.heap:=I2.base;exact fin s2 H1 G1 vs m2 (I.call' I2.os (u1.trans u2) I2.hok I2.bare λb hb=>by
     obtain⟨f0,f1,f2,f3,f4,f5⟩:=hf b hb;exact⟨f3,f1,f4,f5⟩) hm2 I2.free x1 ga1 ha1 dl1)
   ⟨0,bE xs.length none,_,G,[],[],ys,dQ,rfl,cT _,I0,T.keep 0 _ _ st (λb _ o e=>hk2 b o (hk b o e)),λb hb=>by rw[aq (bH (hfs b hb))];exact(hf b hb).1,bp,g0,e0,rfl,aR _,ey,rfl⟩
 exact codeAny_compStart_list loop (T.self _ 0 _ _ _ (T.keep 0 _ _ st (λb _ o e=>hk2 b o (hk b o e))) loop)
def DL(O:CompOk X scope cl xs M ix)(hc:X.calm=true)(Bk:BlockOk X B E scope cl xs M tg td elt ifs t g)(hF:∀W,Cr td (m7 ix W) t g (f W))(hi:R9 X B E tg iter r)
  (hs:∀x,hJ iter X.env x=pure x:=by intro _;rfl):AN X B E (.ListComp elt [⟨tg,iter,ifs,0⟩] scope pos) (nq r f):=by
 intro pins s U H Q I q;rw[eval_ListComp];obtain⟨G,W,R,q⟩:=q;refine wpAny_comprehension_free (use:=none) rfl hs (vt O.clos) O.kind O.names ?_;refine cK (hi pins s U H (λJ H1=>∃G1 ds ys,Ext G H G1 H1/\zi (kx X) J ds (λG2 H2=>Ext G1 H1 G2 H2)/\ds.length<=aM/\lx (f W) ds=some ys/\
  ∀a vs G' H',Ext G H G' H'->H a=none->G' a=none->H' a=some (.lst vs)->DenL (kx X) G' ys vs->Q (.ref a) H') I
  ⟨G,W,R,(HR q).mono λds _ ⟨hl,ys,ey,ds',ed,q⟩ J G1 H1 e1 ok=>⟨G1,ds,ys,e1,ok,hl,ey,by cases ed;exact q⟩⟩) (λv s1 h1=>cK h1 (λitv s2 h2=>?_) λ_ _ e=>e) λ_ _ e=>e
 obtain⟨it,fp,tn,J,H1,rfl,I1,T,st,hf,G1,ds,ys,e1,ok,hl,ey,q⟩:=h2;refine Km (RR:=λacc C=>compPost (bI X.prog X.w) X.A X.xe none (EP X pins U Q) acc C) O hc Bk I1 T st hf (R.ext e1) ok hl (hF W) ey ?_;intro s3 H3 G3 vs m I3 hm hC e3 g3 h3 dl;refine⟨m,hm,λh' hs'=>⟨.ref s2.heap.objs.size,H3,?_,rfl,q _ vs G3 H3 (e1.trans e3) (cz e1.hh (I1.hok.fresh (aR _))) g3 h3 dl⟩⟩;have hsz:s2.heap.objs.size<=s2.heap.objs.size+1:=mH _;refine I3.turned (t':=s3.toks) (it:=s2.heap.objs.size+1) (λb o hb e=>hs'.extBut b o hb e) hC ?_ (.inr (cM I1.sz hsz)) ?_ ?_
 ·exact λz=>absurd (bS I1.lt (cM hsz (jD z))) (cO _)
 ·intro y c hc' z;obtain⟨v',q'⟩:=I1.cell y c hc';exact absurd (bS q'.lt (cM hsz (jD z.symm))) (cO _)
 ·intro p hp z;exact absurd (bS (aP (I1.pin p hp).1) (cM hsz (jD z.symm))) (cO _)
end
section
variable{K:KA}
def CV(h:GQ d=some t):kA K (.type t) (.type "int")=some (AQ t "int"):=by cases d<;>cases h<;>rfl
def W1(h:GQ d=some t):kA K (.type t) (.type "bool")=some (AQ t "bool"):=by cases d<;>cases h<;>rfl
def CU(h:GQ d=some t):kA K (.type t) (.type "str")=some (AQ t "str"):=by cases d<;>cases h<;>rfl
def W2(h:GQ d=some t):kA K (.type t) (.type "list")=some (AQ t "list"):=by cases d<;>cases h<;>rfl
def Th(h:GQ d=some t):kA K (.type t) (.type "tuple")=some (AQ t "tuple"):=by cases d<;>cases h<;>rfl
end
section
variable{X:Cx}{B:Hp}{E:EK}{e a b:Expr}{es:List Expr}{g h:En->Res}{pos:Pos}
def PX(K:KA)(c:String):Prop:=∀{d:D}{t:String},GQ d=some t->kA K (.type t) (.type c)=some (AQ t c)
def XS(K:KA)(c:String):List V->Hp->VK->Prop:=λxs H Q=>∃G d x t,xs=[x,.ty c]/\Same G H/\Arg K G H d x/\GQ d=some t/\Q (.bl (AQ t c)) H
def Vi(hk:PX (kx X) c):CallR X (.builtin "isinstance") (XS (kx X) c):=by
 intro pins s U H xs us Q I r q;obtain⟨G,d,x,t,rfl,sg,ax,et,q⟩:=q;obtain⟨u,u2,rfl,ru,ru2⟩:=Z6 r;cases ru2;have e:=hk et;have fin:∀tk,EP X pins U Q (.bool (AQ t c)) {s with toks:=tk}:=λtk=>⟨.bl (AQ t c),H,I.tok tk,rfl,q⟩;cases d with
 |non=>
  cases et;rw[ax.non]at ru;cases ru;exact fX PySem.W.kitx_none I.kIn jA e (λz=>nomatch z) fin
 |bl y=>
  cases et;rw[ax.bl]at ru;cases ru;exact fX PySem.W.kitx_bool I.kIn jA e (λz=>nomatch z) fin
 |int i=>
  cases et;rw[ax.int]at ru;obtain⟨t,rfl⟩:=ru;exact fX PySem.W.kitx_int I.kIn jA e (λz=>nomatch z) fin
 |str y=>
  cases et;rw[ax.str]at ru;obtain⟨t,rfl⟩:=ru;exact fX PySem.W.kitx_str I.kIn jA e (λz=>nomatch z) fin
 |tup ds=>
  cases et;obtain⟨l,vs,rfl,sq,dl⟩:=ax.tup sg;cases ru;obtain⟨its,rv,⟨o,ho,hc,n,hd⟩,_⟩:=I.tuple sq;exact fX PySem.W.kitx_tuple I.kIn ⟨o,ho,hc⟩ e (λz=>nomatch z) fin
 |lst ds=>
  cases et;obtain⟨l,vs,rfl,sq,dl⟩:=ax.lst sg;cases ru;obtain⟨its,rv,pl,_⟩:=I.list sq;obtain⟨o,ho,hc,_⟩:=pl.isList;exact fX PySem.W.kitx_list I.kIn ⟨o,ho,hc⟩ e (λz=>nomatch z) fin
 |dct tt kvs=>
  cases et;have key:∃a,x=.ref a/\((∃es,H a=some (.dK es))\/∃es,H a=some (.dT es)):=by
   rcases ax with ⟨a,h1,h2⟩|⟨_,_,_,z,_⟩|⟨t',kvs',a,z,h1,h2⟩
   ·exact⟨a,h1,h2.elim (λ⟨_,es,q,_⟩=>.inl ⟨es,sg _ _ q⟩) λ⟨_,es,q,_⟩=>.inr ⟨es,sg _ _ q⟩⟩
   ·cases z
   ·exact⟨a,h1,h2.elim (λ⟨_,es,q,_⟩=>.inl ⟨es,q⟩) λ⟨_,es,q,_⟩=>.inr ⟨es,q⟩⟩
  obtain⟨a,rfl,h2⟩:=key;cases ru;rcases h2 with ⟨es,ea⟩|⟨es,ea⟩
  ·obtain⟨_,_,vs,_,p⟩:=(show ObjOk X.prog X.w H s.heap a (.dK es)from I.hok a _ ea);obtain⟨o,es',ep,h1,h2,_⟩:=p;exact fX PySem.W.kitx_dict I.kIn ⟨o,h1,h2.1⟩ e (λz=>nomatch z) fin
  ·obtain⟨_,_,xs,_,o,es',ep,h1,h2,_⟩:=(show ObjOk X.prog X.w H s.heap a (.dT es)from I.hok a _ ea);exact fX PySem.W.kitx_dict I.kIn ⟨o,h1,h2.1⟩ e (λz=>nomatch z) fin
 |obj _ _=>cases et
 |fn _=>cases et
def Ee(hk:PX (kx X) c)(hg:Gl X "isinstance")(hm:X.mg "isinstance"=none)(hg2:Gl X x)(hm2:X.mg x=none)(hv2:gE x=some (.type c))(ha:jq X B E e g)
  (hn2:x≠"__name__":=by decide)(hd2:(x==("__debug__":Str))=false:=by decide)
  (he:bF [e,.Name x p2] X.env=(false,eval e X.env)::bF [.Name x p2] X.env:=by rfl) (he2:bF [.Name x p2] X.env=(false,eval (.Name x p2) X.env)::bF [] X.env:=by rfl) (hpl:(fG pos (bF [.Name x p2] X.env)).any (·.1)=false:=by rfl):
  gj X B E (.Call (.Name "isinstance" p) [e,.Name x p2] [] pos) (g1 (ba c) g):=
 PE.imp (n9 (Vi hk) hg hm boot_isinstance (vj ha (vj (DK (v:=.ty c) hg2 hm2 hv2 rfl hn2 hd2) Ji he2) he) (by decide) (by decide) he hpl) λU H Q ⟨G,W,R,q⟩=>⟨G,W,R,(ResP.bind q).mono λdx _ qx x G1 H1 e1 ax=>by
  obtain⟨d,ed,qd⟩:=ResP.of qx;unfold ba at ed;cases et:GQ dx with
  |none=>rw[et]at ed;cases ed
  |some t=>
   rw[et]at ed;cases ed;exact⟨G1,dx,x,t,rfl,e1.gh,ax,et,qd _ G1 H1 e1 rfl⟩⟩
noncomputable def Eg(d:D):D->Option Bool
 |.lst xs=>match fb xs,fq d with
  |some ps,some q=>if bC ps && cU q then some (ps.any λy=>bZ y q)else none
  |_,_=>none
 |.tup xs=>match fb xs,fq d with
  |some ps,some q=>if bC ps && cU q then some (ps.any λy=>bZ y q)else none
  |_,_=>none
 |.str z=>match d with
  |.str x=>some (!(lA z x 0 z.length 1).isEmpty)
  |_=>none
 |_=>none
def Me(d e:D):Option D:=(Eg d e).map .bl
def lr(d e:D):Option D:=(Eg d e).map λb=>.bl !b
def B9{b:Bool}(h:(match fb xs,fq d with
  |some ps,some q=>if bC ps && cU q then some (ps.any λy=>bZ y q)else none
  |_,_=>none)=some b):∃ps q,fb xs=some ps/\fq d=some q/\bC ps=true/\cU q=true/\b=ps.any λy=>bZ y q:=by
 cases e1:fb xs with
 |none=>rw[e1]at h;cases h
 |some ps=>
  cases e2:fq d with
  |none=>rw[e1,e2]at h;cases h
  |some q=>
   rw[e1,e2]at h;dsimp only at h
   by_cases hs:(bC ps && cU q)=true
   ·rw[aJ hs]at h;cases h;rw[aO]at hs;exact⟨ps,q,rfl,rfl,hs.1,hs.2,rfl⟩
   ·rw[aK hs]at h;cases h
def Uc(K:KA)(neg:Bool):R2:=λx y H Q=>∃G dx dy b,Same G H/\Arg K G H dx x/\Arg K G H dy y/\Eg dx dy=some b/\Q (.bl (if neg then !b else b)) H
def KH(hu:X.A.units+65<eD):OpR X (cN .In) (Uc (kx X) false):=by
 intro pins s U H x y v u Q I rx ry q;obtain⟨G,dx,dy,b,sg,ax,ay,eb,q⟩:=q;cases dy with
 |lst xs=>
  obtain⟨ps,p,e1,e2,s1,s2,rfl⟩:=B9 eb;obtain⟨as,ra⟩:=d5 I sg ax rx e2;obtain⟨bs,rb⟩:=d5 (p:=.list ps) I sg ay ry (by unfold fq;rw[e1]);exact SeqAt.in_list_reads rb ra s1 (gG s2) (lN s2 hu) ⟨.bl _,H,I,rfl,q⟩
 |tup xs=>
  obtain⟨ps,p,e1,e2,s1,s2,rfl⟩:=B9 eb;obtain⟨as,ra⟩:=d5 I sg ax rx e2;obtain⟨bs,rb⟩:=d5 (p:=.tuple ps) I sg ay ry (by unfold fq;rw[e1]);exact SeqAt.in_tuple_reads rb ra s1 (gG s2) (lN s2 hu) ⟨.bl _,H,I,rfl,q⟩
 |str z=>
  cases dx with
  |str w=>
   cases eb;rw[ax.str]at rx;rw[ay.str]at ry;exact Tu pins s U H _ _ _ _ Q I rx ry ⟨_,_,rfl,rfl,q⟩
  |_=>cases eb
 |_=>cases eb
def Tv(hu:X.A.units+65<eD):OpR X (cN .NotIn) (Uc (kx X) true):=by
 intro pins s U H x y v u Q I rx ry q;obtain⟨G,dx,dy,b,sg,ax,ay,eb,q⟩:=q;cases dy with
 |lst xs=>
  obtain⟨ps,p,e1,e2,s1,s2,rfl⟩:=B9 eb;obtain⟨as,ra⟩:=d5 I sg ax rx e2;obtain⟨bs,rb⟩:=d5 (p:=.list ps) I sg ay ry (by unfold fq;rw[e1]);exact SeqAt.notIn_list_reads rb ra s1 (gG s2) (lN s2 hu) ⟨.bl _,H,I,rfl,q⟩
 |tup xs=>
  obtain⟨ps,p,e1,e2,s1,s2,rfl⟩:=B9 eb;obtain⟨as,ra⟩:=d5 I sg ax rx e2;obtain⟨bs,rb⟩:=d5 (p:=.tuple ps) I sg ay ry (by unfold fq;rw[e1]);exact SeqAt.notIn_tuple_reads rb ra s1 (gG s2) (lN s2 hu) ⟨.bl _,H,I,rfl,q⟩
 |str z=>
  cases dx with
  |str w=>
   cases eb;rw[ax.str]at rx;rw[ay.str]at ry;exact Jg pins s U H _ _ _ _ Q I rx ry ⟨_,_,rfl,rfl,q⟩
  |_=>cases eb
 |_=>cases eb
def EW:ib (kx X) Me (Uc (kx X) false):=λG H x y dx dy d sg ax ay ed Q q=>by
 unfold Me at ed;cases e:Eg dx dy with
 |none=>rw[e]at ed;cases ed
 |some b=>rw[e]at ed;cases ed;exact⟨G,dx,dy,b,sg,ax,ay,e,q _ G H (Ext.refl sg) rfl⟩
def Ov:ib (kx X) lr (Uc (kx X) true):=λG H x y dx dy d sg ax ay ed Q q=>by
 unfold lr at ed;cases e:Eg dx dy with
 |none=>rw[e]at ed;cases ed
 |some b=>rw[e]at ed;cases ed;exact⟨G,dx,dy,b,sg,ax,ay,e,q _ G H (Ext.refl sg) rfl⟩
def d4:D->Option D
 |.lst ds=>some (.tup ds)
 |.tup ds=>some (.tup ds)
 |_=>none
def Yu:D->Option D
 |.int i=>some (.int i)
 |.bl b=>some (.int (if b then 1 else 0))
 |_=>none
def Yq(hg:Gl X "tuple")(hm:X.mg "tuple"=none)(ha:jq X B E e g)(he:bF [e] X.env=(false,eval e X.env)::bF [] X.env:=by rfl)(hpl:(fG pos (bF [] X.env)).any (·.1)=false:=by rfl):gj X B E (.Call (.Name "tuple" p) [e] [] pos) (g1 d4 g):=
 PE.imp (m5 Fl hg hm PyProof.Rows.boot_tuple (fc ha ip he) (by decide) (by decide) he hpl) λU H Q q=>JR (λG H x dx d sg ax ed Q q=>by
  unfold d4 at ed;split at ed
  ·cases ed;obtain⟨l,vs,rfl,sq,dl⟩:=ax.lst sg;exact⟨l,vs,rfl,.inl ⟨sq,λp hp=>q _ (upd G p (.tup vs)) _ (Ext.new sg _ hp) (nj sg hp dl)⟩⟩
  ·cases ed;have ax':=ax;obtain⟨l,vs,rfl,sq,dl⟩:=ax.tup sg;rcases ax' with ad|⟨_,_,_,z,_⟩|⟨_,_,_,z,_⟩
   ·exact⟨l,vs,rfl,.inr ⟨sq,q _ G H (Ext.refl sg) ad⟩⟩
   ·cases z
   ·cases z
  ·cases ed) q
def EH(hg:Gl X "int")(hm:X.mg "int"=none)(ha:jq X B E e g)(he:bF [e] X.env=(false,eval e X.env)::bF [] X.env:=by rfl)(hpl:(fG pos (bF [] X.env)).any (·.1)=false:=by rfl):gj X B E (.Call (.Name "int" p) [e] [] pos) (g1 Yu g):=
 PE.imp (m5 Se hg hm PyProof.Rows.boot_int (fc ha ip he) (by decide) (by decide) he hpl) λU H Q q=>JR (λG H x dx d sg ax ed Q q=>by
  unfold Yu at ed;split at ed
  ·cases ed;rw[ax.int];exact .inl ⟨_,rfl,q _ G H (Ext.refl sg) rfl⟩
  ·cases ed;rw[ax.bl];exact .inr ⟨_,rfl,q _ G H (Ext.refl sg) rfl⟩
  ·cases ed) q
end
section
variable{X:Cx}{G0 B:Hp}{E:EK}{e a b:Expr}{es:List Expr}{g h:En->Res}{pos:Pos}
noncomputable def qu(i:Nat)(g:En->Res):En->Out:=λW=>match W[i]? with
 |some (.ow ds)=>(g W).then λd=>if ds.length<aM then .nx (W.set i (.ow (ds++[d])))else .st
 |_=>.st
def EnvR.owAt{K:KA}{G H:Hp}{U:St}{W:En}{i:Nat}{ds:List D}(R:EnvR K B G H U W)(h:W[i]?=some (.ow ds)):∃a vs,U[i]?=some (some (V.ref a))/\H a=some (.lst vs)/\DenL K G ds vs/\G a=none/\B a=none:=by
 obtain⟨o,q1,a,vs,q2,q3,q4⟩:=R.sl i _ h;subst q2;obtain⟨g,b⟩:=R.own i _ a h rfl q1;exact⟨a,vs,q1,q3,q4,g,b⟩
def Y2{i:Nat}{x:Str}{p apos cpos:Pos}(hv:PE X (.Name x p) (Fy i))(ha:gj X B E e g)
  (hbase:jJ (.Name x p) "append" X.env (eval (.Name x p) X.env)=eval (.Name x p) X.env:=by rfl)
  (hfew:((fG cpos (bF [e] X.env)).all (λx=> !x.1) && (oE cpos (lD [] X.env)).all (λx=>x.1.isSome)
   && decide (([e]:List Expr).length+([]:List iZ).length+(if([]:List iZ).isEmpty then 0 else 1)<30))=true:=by rfl)
  (hline:(apos.endLine==cpos.line)=true:=by rfl) (hs:bF [e] X.env=(false,eval e X.env)::bF [] X.env:=by rfl) (hplain:(fG cpos (bF [] X.env)).any (·.1)=false:=by rfl)
  (hsw:gO (.Call (.Attribute (.Name x p) "append" apos) [e] [] cpos) none pos.line X.env=pure false:=by rfl):
  tq X G0 B E (.Expr (.Call (.Attribute (.Name x p) "append" apos) [e] [] cpos) pos) (qu i g):=
 PS.imp (Ck (Xz lE PySem.F.slot_list_append PySem.F.type_list_append G8 hv (Cv ha ip hs) hbase hfew hline hs hplain) hsw) λD U H ⟨G,W,R,ex,q⟩=>by
  unfold qu at q;cases ed:W[i]? with
  |none=>rw[ed]at q;exact q.elim
  |some sl=>
   rw[ed]at q;cases sl with
   |ow ds=>
    dsimp only at q;obtain⟨l,vs,q1,q2,q3,q4,q5⟩:=R.owAt ed;refine⟨.ref l,q1,.inl ⟨rfl,vs,SqL.of q2⟩,G,W,R,?_⟩;have q':=rf ex q;unfold aa;cases eg:g W with
    |er c=>rw[eg]at q';exact q'
    |st=>rw[eg]at q';exact q'
    |ok d=>
     rw[eg]at q';have q':OutP (kx X) G0 B E G (if ds.length<aM then .nx (W.set i (.ow (ds++[d])))else .st) D:=q'
     by_cases hl:ds.length<aM
     ·rw[aJ hl]at q';intro ws G1 H1 e1 al;obtain⟨d',dr,v,vr,z1,z2,dv,z3,z4⟩:=al;cases z1;subst z2 z4;have h1:=e1.hh _ _ q2;have g1:=e1.fr _ _ q2 q4 rfl;refine⟨l,vs,v,rfl,rfl,h1,by rw[<-q3.length];exact hl,?_⟩;exact q' U G1 _ e1.gg (EnvR.wr (R.ext e1) ed q1 h1 ((q3.mono e1.gg).append (DenL.one dv))) (Ext.wr (ex.trans e1) g1 q5)
     ·rw[aK hl]at q';exact q'.elim
   |no=>exact q.elim
   |pu _=>exact q.elim
   |bo _=>exact q.elim
   |od _ _=>exact q.elim
def Kz(T:String)(hT:T="list"\/T="tuple")(l:Addr)(items:Array aH)(n:Nat)(b:Addr)(items2:Array aH)(n2:Nat)(dd2:Option Addr)(sl2:Array (Option aH))(hs0:¬(!items.isEmpty && iI (items.size+items2.size))=true)(hs1:items.size<=aM)(hs2:items.size+items2.size<=aM+1):
  Meets (Builtin.«list.extend» ⟨[.ref l,.ref b],[]⟩) (λ_ R s=>s.heap.get? l=some {cls:=.type "list",dict:=none,data:=.seq items n,slots:=#[]}/\s.heap.get? b=some {cls:=.type T,dict:=dd2,data:=.seq items2 n2,slots:=sl2}/\R (.ok (.ret bU)) {s with heap:=s.heap.update l (jZ λx=>x++items2),toks:=s.toks}):=
 .of_wp λprog w A R s h=>by
  obtain⟨hp,g,d,tk,os⟩:=s;obtain⟨hl,hb,h⟩:=h;have f1:=AutoSeq1.idx_int;have f2:=AutoSeq1.sub_tuple_tuple;have f3:=AutoSeq1.sub_list_list;have f4:=AutoSeq1.sub_tuple_list;have f5:=AutoSeq1.sub_list_tuple;have hz':(items++items2).size<=aM+1:=by rw[Array.size_append];exact hs2
  rcases hT with rfl|rfl
  ·wp_walk using(gZ hl rfl (hz:=hs1) (_hz':=hz')),iJ hl,iJ hb;exact⟨_,rfl,h⟩
  ·wp_walk using(gZ hl rfl (hz:=hs1) (_hz':=hz')),iJ hl,iJ hb;exact⟨_,rfl,h⟩
def RG(K:KA):V->List V->Hp->VK->Prop:=λx vs H Q=>∃l b xs zs,x=.ref l/\vs=[.ref b]/\H l=some (.lst xs)/\(SqL K H b zs\/SqT K H b zs)/\xs.length+zs.length<=aM/\Q .non (upd H l (.lst (xs++zs)))
def CD:YR X "list.extend" (RG (kx X)):=by
 intro pins s U H x vs v us Q I rx rv h;obtain⟨l,b,xs,zs,rfl,rfl,hH,hB,hz,q⟩:=h;cases rx;obtain⟨u,rfl,ru⟩:=rv.one;cases ru;obtain⟨z,its,n,r,hl,e⟩:=I.lstM hH;have key:∃T its2 n2 dd2 sl2,(T="list"\/T="tuple")/\Vals zs its2/\s.heap.get? b=some {cls:=.type T,dict:=dd2,data:=.seq its2.toArray n2,slots:=sl2}:=by
  rcases hB with hB|hB
  ·obtain⟨its2,r2,pl,_⟩:=I.list hB;obtain⟨⟨cls,dd,data,sl⟩,n2,ho,c,d,q⟩:=pl;simp only at c d q;subst c d q;exact⟨_,its2,n2,_,sl,.inl rfl,r2,ho⟩
  ·obtain⟨its2,r2,pl,_⟩:=I.tuple hB;obtain⟨⟨cls,dd,data,sl⟩,ho,c,n2,q⟩:=pl;simp only at c q;subst c q;exact⟨_,its2,n2,_,sl,.inr rfl,r2,ho⟩
 obtain⟨T,its2,n2,dd2,sl2,hT,r2,e2⟩:=key;have hl2:=r2.length;have hsz:its.toArray.size+its2.toArray.size<=aM:=by rw[bL,bL];lia
 have hlong:¬(!its.toArray.isEmpty && iI (its.toArray.size+its2.toArray.size))=true:=by
  rw[Xj hsz,kB];exact Bool.false_ne_true
 refine call_meets F.slot_list_extend ⟨_,e,rfl⟩ F.entry_list_extend (F.args_list_extend_2 _ _)
  (Kz T hT l its.toArray n b its2.toArray n2 dd2 sl2 hlong (by rw[bL];lia) (by lia)) ⟨e,e2,?_⟩
 refine⟨.non,_,I.lset (its':=its++its2) hH e (by simp) (r.append r2) ?_,rfl,q⟩;rw[aU]
 lia
noncomputable def yw(i:Nat)(g:En->Res):En->Out:=λW=>match W[i]? with
 |some (.ow ds)=>(g W).then λd=>match xb d with
  |some es=>if ds.length+es.length<=aM then .nx (W.set i (.ow (ds++es)))else .st
  |none=>.st
 |_=>.st
def Y3{i:Nat}{x:Str}{p apos cpos:Pos}(hv:PE X (.Name x p) (Fy i))(ha:jq X B E e g)
  (hbase:jJ (.Name x p) "extend" X.env (eval (.Name x p) X.env)=eval (.Name x p) X.env:=by rfl)
  (hfew:((fG cpos (bF [e] X.env)).all (λx=> !x.1) && (oE cpos (lD [] X.env)).all (λx=>x.1.isSome)
   && decide (([e]:List Expr).length+([]:List iZ).length+(if([]:List iZ).isEmpty then 0 else 1)<30))=true:=by rfl)
  (hline:(apos.endLine==cpos.line)=true:=by rfl) (hs:bF [e] X.env=(false,eval e X.env)::bF [] X.env:=by rfl) (hplain:(fG cpos (bF [] X.env)).any (·.1)=false:=by rfl)
  (hsw:gO (.Call (.Attribute (.Name x p) "extend" apos) [e] [] cpos) none pos.line X.env=pure false:=by rfl):
  tq X G0 B E (.Expr (.Call (.Attribute (.Name x p) "extend" apos) [e] [] cpos) pos) (yw i g):=
 PS.imp (Ck (Xz lE PySem.F.slot_list_extend PySem.F.type_list_extend CD hv (fc ha ip hs) hbase hfew hline hs hplain) hsw) λD U H ⟨G,W,R,ex,q⟩=>by
  unfold yw at q;cases ed:W[i]? with
  |none=>rw[ed]at q;exact q.elim
  |some sl=>
   rw[ed]at q;cases sl with
   |ow ds=>
    dsimp only at q;obtain⟨l,vs,q1,q2,q3,q4,q5⟩:=R.owAt ed;refine⟨.ref l,q1,.inl ⟨rfl,vs,SqL.of q2⟩,G,W,R,?_⟩;have q':=rf ex q;unfold aa;cases eg:g W with
    |er c=>rw[eg]at q';exact q'
    |st=>rw[eg]at q';exact q'
    |ok d=>
     rw[eg]at q';cases ei:xb d with
     |none=>
      have q':OutP (kx X) G0 B E G (match xb d with
       |some es=>if ds.length+es.length<=aM then .nx (W.set i (.ow (ds++es)))else .st
       |none=>.st) D:=q'
      rw[ei]at q';exact q'.elim
     |some es=>
      have q':OutP (kx X) G0 B E G (match xb d with
       |some es=>if ds.length+es.length<=aM then .nx (W.set i (.ow (ds++es)))else .st
       |none=>.st) D:=q'
      rw[ei]at q';dsimp only at q'
      by_cases hl:ds.length+es.length<=aM
      ·rw[aJ hl]at q';intro ws G1 H1 e1 al;obtain⟨v,rfl,av⟩:=ArgsM.one al;have h1:=e1.hh _ _ q2;have g1:=e1.fr _ _ q2 q4 rfl;have key:∃b zs,v=.ref b/\(SqL (kx X) H1 b zs\/SqT (kx X) H1 b zs)/\DenL (kx X) G1 es zs:=by
        cases d with
        |lst ds'=>cases ei;obtain⟨b,zs,z1,z2,z3⟩:=av.lst e1.gh;exact⟨b,zs,z1,.inl z2,z3⟩
        |tup ds'=>cases ei;obtain⟨b,zs,z1,z2,z3⟩:=av.tup e1.gh;exact⟨b,zs,z1,.inr z2,z3⟩
        |_=>cases ei
       obtain⟨b,zs,rfl,sq,dl⟩:=key;have l1:=q3.length;have l2:=dl.length;refine⟨l,b,vs,zs,rfl,rfl,h1,sq,by lia,?_⟩;exact q' U G1 _ e1.gg (EnvR.wr (R.ext e1) ed q1 h1 ((q3.mono e1.gg).append dl)) (Ext.wr (ex.trans e1) g1 q5)
      ·rw[aK hl]at q';exact q'.elim
   |no=>exact q.elim
   |pu _=>exact q.elim
   |bo _=>exact q.elim
   |od _ _=>exact q.elim
end
def bz:D->Option gi
 |.int i=>some (.inl i)
 |.str x=>some (.inr x)
 |_=>none
def ui(k:gi):bz (kD k)=some k:=by cases k<;>rfl
noncomputable def bg:List (D×D)->gi->Option D
 |[],_=>none
 |(k,d)::r,j=>if bz k=some j then some d else bg r j
def S6(kvs:List (D×D))(j:gi):Bool:=kvs.any λp=>decide (bz p.1=some j)
def pv(kvs:List (D×D))(j:gi)(v:D):List (D×D):=if S6 kvs j=true then kvs.map (λp=>if bz p.1=some j then(p.1,v)else p)else kvs++[(kD j,v)]
section
variable{K:KA}{G:Hp}
theorem DenK.length:∀{kvs:List (D×D)}{es:List (gi×V)},DenK K G kvs es->kvs.length=es.length
 |[],_,h=>by rw[show _=[]from h];rfl
 |(_,_)::_,_,⟨k,v,r,h1,_,_,h3⟩=>by rw[h1,aL,aL,DenK.length h3]
theorem DenK.look:∀{kvs:List (D×D)}{es:List (gi×V)},DenK K G kvs es->∀j,(∀d,bg kvs j=some d->∃v,me es j=some v/\Den K G d v)/\(bg kvs j=none->me es j=none)
 |[],es,h,j=>by
  rw[show es=[]from h];exact⟨λd e=>(by cases e),λ_=>My⟩
 |(k,d)::r,es,h,j=>by
  obtain⟨k',v,t,rfl,rfl,dv,dt⟩:=h;obtain⟨i1,i2⟩:=DenK.look dt j;unfold bg;rw[ui]
  by_cases e:k'=j
  ·subst e;rw[aJ rfl];exact⟨λd' z=>⟨v,uz rfl,by cases z;exact dv⟩,λz=>by cases z⟩
  ·rw[aK (λz=>e (bM z))];refine⟨λd' z=>?_,λz=>?_⟩
   ·obtain⟨u,q1,q2⟩:=i1 d' z;exact⟨u,(oo e).trans q1,q2⟩
   ·exact(oo e).trans (i2 z)
theorem DenK.has:∀{kvs:List (D×D)}{es:List (gi×V)},DenK K G kvs es->∀j,S6 kvs j=es.any λkv=>decide (kv.1=j)
 |[],es,h,j=>by rw[show es=[]from h];rfl
 |(k,d')::r,es,h,j=>by
  obtain⟨k',u,t,rfl,rfl,du,dt⟩:=h;have ih:=DenK.has dt j;unfold S6 at ih⊢;rw[fQ,fQ,ih]
  congr 1
  rw[ui]
  by_cases e:k'=j
  ·simp[e]
  ·rw[decide_eq_false e,decide_eq_false λz=>e (bM z)]
theorem DenK.repl(dv:Den K G d v):∀{kvs:List (D×D)}{es:List (gi×V)},DenK K G kvs es->∀j,DenK K G (kvs.map λp=>if bz p.1=some j then(p.1,d)else p) (es.map λkv=>if kv.1=j then(kv.1,v)else kv)
 |[],es,h,j=>by rw[show es=[]from h];rfl
 |(k,d')::r,es,h,j=>by
  obtain⟨k',u,t,rfl,rfl,du,dt⟩:=h;have ih:=DenK.repl dv dt j;rw[aG,aG];dsimp only;rw[ui]
  by_cases e:k'=j
  ·rw[aJ e,aJ (by rw[e])];exact⟨k',v,_,rfl,rfl,dv,ih⟩
  ·rw[aK e,aK λz=>e (bM z)];exact⟨k',u,_,rfl,rfl,du,ih⟩
theorem DenK.snoc(dv:Den K G d v):∀{kvs:List (D×D)}{es:List (gi×V)},DenK K G kvs es->∀j,DenK K G (kvs++[(kD j,d)]) (es++[(j,v)])
 |[],es,h,j=>by rw[show es=[]from h];exact⟨j,v,[],rfl,rfl,dv,rfl⟩
 |(k,d')::r,es,h,j=>by
  obtain⟨k',u,t,rfl,rfl,du,dt⟩:=h;exact⟨k',u,_,rfl,rfl,du,DenK.snoc dv dt j⟩
def DenK.put(dv:Den K G d v)(h:DenK K G kvs es)(j:gi):DenK K G (pv kvs j d) (ou es j v):=by
 unfold pv ou;rw[h.has j]
 by_cases e:(es.any λkv=>decide (kv.1=j))=true
 ·rw[aJ e,aJ e];exact h.repl dv j
 ·rw[aK e,aK e];exact h.snoc dv j
end
section
variable{X:Cx}{G0 B:Hp}{E:EK}{e a b:Expr}{es:List Expr}{g h k:En->Res}{pos:Pos}
def Arg.dctK{K:KA}{G H:Hp}{kvs:List (D×D)}{v:V}(s:Same G H)(h:Arg K G H (.dct false kvs) v):∃a es,v=.ref a/\H a=some (.dK es)/\DenK K G kvs es:=by
 rcases h with ⟨a,h1,h2⟩|⟨_,_,_,z,_⟩|⟨t',kvs',a,z,h1,h2⟩
 ·rcases h2 with ⟨_,es,q,r⟩|⟨z,_⟩
  ·exact⟨a,es,h1,s _ _ q,r⟩
  ·cases z
 ·cases z
 ·cases z;rcases h2 with ⟨_,es,q,r⟩|⟨z,_⟩
  ·exact⟨a,es,h1,q,r⟩
  ·cases z
def yx(i:Nat):En->Out:=λW=>.nx (W.set i (.od false []))
def EnvR.setD{K:KA}{G H:Hp}{U:St}{W:En}{i:Nat}{a:Addr}(R:EnvR K B G H U W)(hn:H a=none):EnvR K B G (upd H a (.dK [])) (U.set i (some (.ref a))) (W.set i (.od false [])):=by
 have e:Ext G H G (upd H a (.dK [])):=Ext.own R.gh _ hn;have R':=R.ext e;have gn:G a=none:=cz R.gh hn;have bn:B a=none:=cz R.bh hn;have oth:∀(j:Nat) s,W[j]?=some s->s.own=true->U[j]?=some (some (V.ref a))->False:=λj s q1 q2 q3=>by
  obtain⟨o,z1,z2⟩:=R.sl j s q1;rw[q3]at z1;cases z1;obtain⟨a',z,u,z3,_⟩:=z2.ref q2;cases z;rw[hn]at z3;cases z3
 have at_i:∀{s:Sl},(W.set i (.od false []))[i]?=some s->s=.od false []/\i<W.length:=λq=>by
  have hl:i<W.length:=by
   have:=(List.getElem?_eq_some_iff.mp q).1;rwa [cC]at this
  rw[aS hl]at q;cases q;exact⟨rfl,hl⟩
 refine⟨R'.bh,R'.gh,by rw[cC,cC];exact R.len,λj s q=>?_,λj s b q1 q2 q3=>?_,λj k s t b q1 q2 q3 q4 q5 q6=>?_,R.gb⟩
 ·by_cases z:i=j
  ·subst z;obtain⟨rfl,hl⟩:=at_i q;exact⟨some (.ref a),aS (by rw[R.len];exact hl),a,[],rfl,bp,rfl⟩
  ·rw[aV z]at q⊢;exact R'.sl j s q
 ·by_cases z:i=j
  ·subst z;obtain⟨rfl,hl⟩:=at_i q1;rw[aS (by rw[R.len];exact hl)]at q3;cases q3;exact⟨gn,bn⟩
  ·rw[aV z]at q1 q3;exact R'.own j s b q1 q2 q3
 ·by_cases zj:i=j
  ·subst zj;obtain⟨rfl,hl⟩:=at_i q1;rw[aS (by rw[R.len];exact hl)]at q5;cases q5
   by_cases zk:i=k
   ·exact zk
   ·rw[aV zk]at q2 q6;exact(oth k t q2 q4 q6).elim
  ·rw[aV zj]at q1 q5
   by_cases zk:i=k
   ·subst zk;obtain⟨rfl,hl⟩:=at_i q2;rw[aS (by rw[R.len];exact hl)]at q6;cases q6;exact(oth j s q1 q3 q5).elim
   ·rw[aV zk]at q2 q6;exact R'.dis j k s t b q1 q2 q3 q4 q5 q6
def NX(hs:PS X (.Assign [.Name x pos'] (.Dict [] [] p) pos) (Mu Zg (ti i))):tq X G0 B E (.Assign [.Name x pos'] (.Dict [] [] p) pos) (yx i):=
 PS.imp hs λD U H ⟨G,W,R,e,q⟩=>λa ha=>q _ G _ (Same.refl G) (R.setD ha) (e.trans (Ext.own R.gh _ ha))
def EnvR.odAt{K:KA}{G H:Hp}{U:St}{W:En}{i:Nat}{kvs:List (D×D)}(R:EnvR K B G H U W)(h:W[i]?=some (.od false kvs)):∃a es,U[i]?=some (some (V.ref a))/\H a=some (.dK es)/\DenK K G kvs es/\G a=none/\B a=none:=by
 obtain⟨o,q1,a,vs,q2,q3,q4⟩:=R.sl i _ h;subst q2;obtain⟨g,b⟩:=R.own i _ a h rfl q1;exact⟨a,vs,q1,q3,q4,g,b⟩
def EnvR.wrD{K:KA}{G H:Hp}{U:St}{W:En}{i:Nat}{kvs kvs':List (D×D)}{a:Addr}{es es':List (gi×V)}(R:EnvR K B G H U W)(hi:W[i]?=some (.od false kvs))(hs:U[i]?=some (some (V.ref a)))(ha:H a=some (.dK es))(dl:DenK K G kvs' es'):
  EnvR K B G (upd H a (.dK es')) U (W.set i (.od false kvs')):=by
 obtain⟨gn,bn⟩:=R.own i _ a hi rfl hs;have hl:i<W.length:=(List.getElem?_eq_some_iff.mp hi).1;have sb:∀{F:Hp},F a=none->Same F H->Same F (upd H a (.dK es')):=λfn s b u q=>by
  rw[aq (bj q fn)];exact s b u q
 have ownEq:∀{j:Nat}{s:Sl},(W.set i (.od false kvs'))[j]?=some s->s.own=true->∃s',W[j]?=some s'/\s'.own=true:=λ{j s} q o=>by
  by_cases z:i=j
  ·subst z;exact⟨_,hi,rfl⟩
  ·rw[aV z]at q;exact⟨s,q,o⟩
 refine⟨sb bn R.bh,sb gn R.gh,by rw[cC];exact R.len,λj s q=>?_,λj s b q1 q2 q3=>?_,λj k s t b q1 q2 q3 q4 q5 q6=>?_,R.gb⟩
 ·by_cases z:i=j
  ·subst z;rw[aS hl]at q;cases q;exact⟨_,hs,a,es',rfl,bp,dl⟩
  ·rw[aV z]at q;obtain⟨o,z1,z2⟩:=R.sl j s q;refine⟨o,z1,?_⟩;cases s with
   |no=>trivial
   |pu d=>exact z2
   |bo d=>exact z2
   |ow fs=>
    obtain⟨b,us,y1,y2,y3⟩:=z2;have nb:b≠a:=by
     rintro rfl
     rw[ha]at y2;cases y2
    exact⟨b,us,y1,by rw[aq nb];exact y2,y3⟩
   |od t fs=>
    cases t with
    |false=>
     obtain⟨b,us,y1,y2,y3⟩:=z2;have nb:b≠a:=by
      rintro rfl
      subst y1;exact z (R.dis i j _ _ b hi q rfl rfl hs z1)
     exact⟨b,us,y1,by rw[aq nb];exact y2,y3⟩
    |true=>
     obtain⟨b,us,y1,y2,y3⟩:=z2;have nb:b≠a:=by
      rintro rfl
      rw[ha]at y2;cases y2
     exact⟨b,us,y1,by rw[aq nb];exact y2,y3⟩
 ·obtain⟨s',z1,z2⟩:=ownEq q1 q2;exact R.own j s' b z1 z2 q3
 ·obtain⟨s',z1,z2⟩:=ownEq q1 q3;obtain⟨t',y1,y2⟩:=ownEq q2 q4;exact R.dis j k s' t' b z1 y1 z2 y2 q5 q6
def o3{K:KA}{G H:Hp}{d:D}{v:V}{k:gi}(h:Arg K G H d v)(e:bz d=some k):v=kV k:=by
 cases d with
 |int i=>cases e;exact h.int
 |str x=>cases e;exact h.str
 |_=>cases e
noncomputable def yt(i:Nat)(gk gv:En->Res):En->Out:=λW=>match W[i]? with
 |some (.od false kvs)=>(gv W).then λv=>(gk W).then λk=>match bz k with
  |some j=>if kvs.length<aM then .nx (W.set i (.od false (pv kvs j v)))else .st
  |none=>.st
 |_=>.st
def MB{i:Nat}{x:Str}{p pos':Pos}{kxx vx:Expr}(hu:X.A.units+5<eD)(hv:PE X (.Name x p) (Fy i))(hk:jq X B E kxx g)(hval:gj X B E vx h)
  (hs:gO vx (some (.Subscript (.Name x p) kxx pos')) pos.line X.env=pure false:=by rfl):tq X G0 B E (.Assign [.Subscript (.Name x p) kxx pos'] vx pos) (yt i g h):=
 PS.imp (Rn hu hv hk hval hs) λD U H ⟨G,W,R,ex,q⟩=>by
  unfold yt at q;cases ed:W[i]? with
  |none=>rw[ed]at q;exact q.elim
  |some sl=>
   rw[ed]at q;cases sl with
   |od t kvs=>
    cases t with
    |true=>exact q.elim
    |false=>
     dsimp only at q;obtain⟨l,es,q1,q2,q3,q4,q5⟩:=R.odAt ed;refine⟨G,W,R,(rf ex q).mono λdv _ q v G1 H1 e1 dn=>⟨.ref l,q1,G1,W,R.ext e1,(rf (K:=(kx X)) (ex.trans e1) (OutP.same e1.gg q)).mono λdk _ q y G2 H2 e2 ay=>?_⟩⟩;have e12:=e1.trans e2;cases ej:bz dk with
     |none=>rw[ej]at q;exact q.elim
     |some j=>
      rw[ej]at q;dsimp only at q
      by_cases hl:kvs.length<aM
      ·rw[aJ hl]at q;have h2:=e12.hh _ _ q2;have g2:=e12.fr _ _ q2 q4 rfl;rw[o3 ay ej];refine⟨l,_,rfl,DPut.k h2 (by rw[<-q3.length];exact hl),?_⟩;exact q U G2 _ e2.gg (EnvR.wrD (R.ext e12) ed q1 h2 ((q3.mono e12.gg).put (dn.mono e2.gg) j)) (Ext.wr (ex.trans e12) g2 q5)
      ·rw[aK hl]at q;exact q.elim
   |no=>exact q.elim
   |pu _=>exact q.elim
   |bo _=>exact q.elim
   |ow _=>exact q.elim
noncomputable def km(d k x:En->Res):En->Res:=λW=>(d W).bind λdd=>match dd with
 |.dct false kvs=>(k W).bind λdk=>(x W).bind λdx=>match bz dk with
  |some j=>.ok ((bg kvs j).getD dx)
  |none=>.st
 |_=>.st
def EJ{o ke xe:Expr}{apos cpos:Pos}(hu:X.A.units+5<eD)(ho:jq X B E o g)(hk:jq X B E ke h)(hx:gj X B E xe k)(m:M2 X o "get" apos ke xe cpos):
  gj X B E (.Call (.Attribute o "get" apos) [ke,xe] [] cpos) (km g h k):=
 PE.imp (X2 hu ho hk hx m) λU H Q ⟨G,W,R,q⟩=>⟨G,W,R,(ResP.bind q).mono λdd _ q v G1 H1 e1 av=>by
  cases dd with
  |dct t kvs=>
   cases t with
   |true=>exact q.elim
   |false=>
    obtain⟨l,es,rfl,h1,dl⟩:=Arg.dctK e1.gh av;refine⟨l,rfl,.inl ⟨es,.inl h1⟩,G1,W,R.ext e1,((ResP.bind q).ext e1).mono λdk _ q y G2 H2 e2 ay=>⟨G2,W,R.ext (e1.trans e2),((ResP.bind q).ext (e1.trans e2)).mono λdx _ q z G3 H3 e3 dz=>?_⟩⟩;have e13:=(e1.trans e2).trans e3;cases ej:bz dk with
    |none=>rw[ej]at q;exact q.elim
    |some j=>
     rw[ej]at q;have q:∀v G' H',Ext G H G' H'->Den (kx X) G' ((bg kvs j).getD dx) v->Q v H':=q;rw[o3 ay ej];have h3:=(e2.trans e3).hh _ _ h1;refine⟨_,DGet.k h3,?_⟩;obtain⟨k1,k2⟩:=(dl.mono (e2.trans e3).gg).look j;cases el:bg kvs j with
     |none=>
      rw[k2 el];rw[el]at q;exact q _ G3 H3 e13 dz
     |some d'=>
      obtain⟨v',z1,z2⟩:=k1 d' el;rw[z1];rw[el]at q;exact q _ G3 H3 e13 z2
  |non=>exact q.elim
  |bl _=>exact q.elim
  |int _=>exact q.elim
  |str _=>exact q.elim
  |tup _=>exact q.elim
  |lst _=>exact q.elim
  |obj _ _=>exact q.elim
  |fn _=>exact q.elim⟩
end
def i3:Expr->Bool
 |.Starred _ _=>false
 |_=>true
def a5(h:i3 e=true):bF (e::es) env=(false,eval e env)::bF es env:=by
 cases e<;>first|rfl|cases h
theorem ux:∀{es:List Expr}{env:Env}{pos:Pos},es.all i3=true->(fG pos (bF es env)).any (·.1)=false
 |[],_,_,_=>rfl
 |e::es,env,pos,h=>by
  rw[cP,aO]at h;rw[a5 h.1];show((false||(fG pos (bF es env)).any (·.1)))=false;rw[ux h.2];rfl
theorem uw:∀{es:List Expr}{env:Env}{pos:Pos},es.all i3=true->(fG pos (bF es env)).all (λx=> !x.1)=true
 |[],_,_,_=>rfl
 |e::es,env,pos,h=>by
  rw[cP,aO]at h;rw[a5 h.1];show((true && (fG pos (bF es env)).all (λx=> !x.1)))=true;rw[uw h.2];rfl
def Mp(h:i3 e=true)(h2:i3 f=true):fG pos (bF [e,f] env)=[(false,eval e env),(false,eval f env)]:=by
 rw[a5 h,a5 h2];rfl
def Jj:Expr->Bool
 |.UnaryOp .Not _ _=>false
 |.BoolOp _ _ _=>false
 |.IfExp _ _ _ _=>false
 |.Compare _ _ _ _=>false
 |_=>true
def Hg{a:Expr}(h:Jj a=true):∀whole,isTrue a env whole=(do let v <-whole;standAt a.pos;pO [v] (truthy v)):=by
 intro whole;cases a<;>first|rfl|(cases h;done)|skip
 rename_i op x p;cases op<;>first|rfl|cases h
def xm:Expr->Bool
 |.Slice _ _ _ _=>false
 |_=>true
def T2(h:xm b=true):Hx b:=by
 intro o i;cases b<;>first|rfl|cases h
def mi:Expr->Bool
 |.Set _ _ _=>false
 |_=>true
def o8(h:mi b=true):kR op b=false:=by
 cases b<;>first|rfl|cases h
def rq(h:mi e=true):∀x,hJ e env x=pure x:=by
 intro x;cases e<;>first|rfl|cases h
def D7(h:mi c=true):pN [op,op'] [b,c]=false:=o8 h
def pk:Expr->Bool
 |.ListComp _ _ _ _=>false
 |.SetComp _ _ _ _=>false
 |.DictComp _ _ _ _ _=>false
 |_=>true
def g9(h:pk e=true):gO e t n env=pure false:=by
 cases e<;>first|rfl|cases h
def Aj:Expr->Bool
 |.Call _ _ _ _=>false
 |_=>true
def Be(h:Aj o=true):jJ o a env w=w:=by
 cases o<;>first|rfl|cases h
end Pu
end
section
namespace L2
open PySem PySem.Spec PyProof.Rows
structure Noted(fr:List Addr)(e:Addr)(h h':Heap):Prop where
 keep:∀b o,b≠e->b∉fr->h.get? b=some o->h'.get? b=some o
 slot:∀b o,b≠e->h.get? b=some o->∃sl,h'.get? b=some {o with slots:=sl}
structure Rec(h:Heap)(e T:Addr)(cls:aH):Prop where
 exc:∃oe vs,h.get? e=some oe/\oe.cls=cls/\oe.data=.fields vs/\vs[1]?=some (.ref T)
 tb:∃oT ts,h.get? T=some oT/\oT.data=.fields ts/\ts[3]?=some .none
 ne:T≠e
section
variable{M:Model}{A:cS}{E:aH->aN->Prop}{s:aN}
def L0
  (hfr:A.frames=some (env::outer))(hl:s.heap.FunFrames base (env::outer))(hf:env.frame=some L)(he:s.heap.get? e=some oe)(hd:oe.data=.fields vs)(hsz:1<vs.size)
  (h:∀h' T,s.heap.objs.size<=T->Noted (Ft (env::outer)) e s.heap h'->Rec h' e T oe.cls->Q () {s with heap:=h'}):
  aQ M A (do let a <-frameOf env;let pl <-entryPlaceOf L nx;let b <-EntryCells.newEntry head a .none (cE L) .none pl;setField (.ref e) 1 b) (λ_ s'=>aQ M A (setFlight (.ref e) none) Q E s') E s:=by
 have nfr:e∉Ft (env::outer):=λz=>by
  obtain⟨_,u,hu,nf⟩:=hl.mem z;rw[he]at hu;cases hu;exact nf vs hd
 refine aA (wpAny_frameOf_fun hfr hl hf λh1 k1=>aA (wpAny_entryPlaceOf λpl ipl=>?_));unfold EntryCells.newEntry newFields;refine aA (cD ?_ (ipl.sizeOk5 _ _ _ _ _));have g1:h1.get? e=some oe:=(k1.2.1 e nfr).trans he;generalize hto:({cls:=iW "traceback",dict:=none,data:=.fields ([head,bX L,bU,cE L,bU]++(if pl.isEmpty then bE 6 bU else pl)).toArray}:Obj)=tO;have g2:=aC (h:=h1) tO g1;refine eE g2 hd hsz ?_;have ne:h1.objs.size≠e:=eK (aP g1);have d3:=fO hd (·.setIfInBounds 1 (bX h1.objs.size));have g3:=cG (eN (·.setIfInBounds 1 (bX h1.objs.size))) g2 (jK d3);have hfreed:tO.isFreed=false:=by rw[<-hto];rfl
 have t3:=(cH (h1.push tO) (eN (·.setIfInBounds 1 (bX h1.objs.size))) (dX ne)).trans (aT h1 hfreed);have dT:∃ts,tO.data=.fields ts/\3<ts.size:=by
  rw[<-hto];exact⟨_,rfl,by simp only[bL,aU,aL,eZ]<;>lia⟩
 obtain⟨ts,dT,s3⟩:=dT;unfold setFlight;refine aA (cQ g3 d3 (x:=.ref h1.objs.size) (by simp[hsz]) ?_);rw[aJ (show(bX h1.objs.size !=bU)=true by simp)];have all:∀b o,b≠e->h1.get? b=some o->(((h1.push tO).update e (eN (·.setIfInBounds 1 (bX h1.objs.size)))).update h1.objs.size (eN (·.setIfInBounds 3 ((none:Option Addr).elim bU λf=>cE f)))).get? b=some o:=λb o hb q=>by
  rw[cH _ _ (eK (aP q)),cH _ _ (dX hb)];exact aC _ q
 refine eE t3 dT s3 (h _ h1.objs.size (by rw[k1.1];exact aR _) ⟨λb o hb hn q=>all b o hb ((k1.2.1 b hn).trans q),λb o hb q=>?_⟩ ⟨⟨_,_,?_,?_,d3,by simp[hsz]⟩,⟨_,_,cG _ t3 (jK (fO dT _)),fO dT _,by simp[s3]⟩,ne⟩)
 ·obtain⟨sl,q'⟩:=k1.2.2 b o q;exact⟨sl,all b _ hb q'⟩
 ·rw[cH _ _ ne];exact g3
 ·exact nQ _ _
def XZ
  (hfr:A.frames=some (env::outer))(hl:s.heap.FunFrames base (env::outer))(hf:env.frame=some L)(he:s.heap.get? e=some oe)(hd:oe.data=.fields vs)(hsz:1<vs.size)
  (htb:vs[1]?=some .none\/∃T oT ts,vs[1]?=some (.ref T)/\T≠e/\s.heap.get? T=some oT/\oT.data=.fields ts/\ts[3]?=some .none)
  (h:∀h' T,s.heap.objs.size<=T->(∀b o,b≠e->vs[1]?≠some (.ref b)->b∉Ft (env::outer)->s.heap.get? b=some o->h'.get? b=some o)->(∀b o,b≠e->vs[1]?≠some (.ref b)->s.heap.get? b=some o->∃sl,h'.get? b=some {o with slots:=sl})->Rec h' e T oe.cls->Q () {s with heap:=h'}):
  aQ M A (noteFrame (.ref e) env) (λ_ s'=>aQ M A (setFlight (.ref e) none) Q E s') E s:=by
 unfold noteFrame;simp only[hf];rcases htb with h1|⟨T,oT,ts,h1,hne,hT,hdT,h3⟩
 ·refine aA (cQ he hd h1 ?_);rw[aK (by decide)];exact L0 hfr hl hf he hd hsz λh' T a b c=>h h' T a (λb' o q _ r z=>b.keep b' o q r z) (λb' o q _ z=>b.slot b' o q z) c
 ·refine aA (cQ he hd h1 ?_);rw[aJ (show(bX T !=bU)=true by simp)];refine aA (cQ hT hdT h3 ?_);rw[aK (show¬((bU==cE L)=true) by simp[cE])];refine aA (eE hT hdT (Array.getElem?_eq_some_iff.mp h3).1 ?_);have oth:∀b,b≠T->(s.heap.update T (eN (·.setIfInBounds 3 bU))).get? b=s.heap.get? b:=λb hb=>cH _ _ (dX hb);have hrec:∀b o,s.heap.get? b=some o->(∀vs,o.data≠.fields vs)->b≠T:=λb o q nf z=>by rw[z,hT]at q;cases q;exact nf ts hdT
  refine L0 hfr (hl.of_keeps λb o q nf=>⟨o,(oth b (hrec b o q nf)).trans q,rfl⟩) hf ((oth e (dX hne)).trans he) hd hsz λh' T' a b c=>h h' T' ?_ (λb' o q r z w=>b.keep b' o q z ((oth b' λy=>r (y▸h1)).trans w)) (λb' o q r w=>b.slot b' o q ((oth b' λy=>r (y▸h1)).trans w)) c;exact cM (jD (Heap.size_update ..).symm) a
def QK
  (hfr:A.frames=some (env::outer))(hl:s.heap.FunFrames base (env::outer))(hf:env.frame=some L)(he:s.heap.get? e=some oe)(hd:oe.data=.fields vs)(hsz:1<vs.size)
  (htb:vs[1]?=some .none\/∃T oT ts,vs[1]?=some (.ref T)/\T≠e/\s.heap.get? T=some oT/\oT.data=.fields ts/\ts[3]?=some .none)
  (h:∀h' T,s.heap.objs.size<=T->(∀b o,b≠e->vs[1]?≠some (.ref b)->b∉Ft (env::outer)->s.heap.get? b=some o->h'.get? b=some o)->(∀b o,b≠e->vs[1]?≠some (.ref b)->s.heap.get? b=some o->∃sl,h'.get? b=some {o with slots:=sl})->Rec h' e T oe.cls->Q () {s with heap:=h'}):
  aQ M A (leaving env (.ref e)) Q E s:=by
 unfold leaving;exact aA (XZ hfr hl hf he hd hsz htb h)
end
def L3{h:Heap}(x:ObjOk P w H h a o):∃u,h.get? a=some u:=by
 cases o with
 |lst xs=>obtain⟨_,_,_,_,e⟩:=x;exact⟨_,e⟩
 |tup xs=>obtain⟨_,_,_,u,e,_⟩:=x;exact⟨_,e⟩
 |dK kvs=>obtain⟨_,_,_,_,o,_,_,e,_⟩:=x;exact⟨_,e⟩
 |dT kvs=>obtain⟨_,_,_,_,o,_,_,e,_⟩:=x;exact⟨_,e⟩
 |set S n=>obtain⟨o,_,_,_,e,_⟩:=x;exact⟨_,e⟩
 |ins C dx fs=>obtain⟨_,_,_,e,_⟩:=x;exact⟨_,e⟩
 |own y=>exact x
 |xd fs=>obtain⟨_,⟨_,_,_,e,_⟩,_⟩:=x;exact⟨_,e⟩
 |rng lo hi=>obtain⟨_,_,_,e⟩:=x;exact⟨_,e⟩
 |frz ob u=>obtain⟨e,_⟩:=x;exact⟨_,e⟩
 |tbl q=>obtain⟨ps,e,_⟩:=x;exact⟨_,e⟩
 |met f y=>exact⟨_,x⟩
 |ext φ=>obtain⟨_,e,_⟩:=x;exact e
def Wj{h:Heap}(x:HOk P w H h)(e:h.get? a=none):H a=none:=by
 cases q:H a with
 |none=>rfl
 |some o=>
  obtain⟨u,z⟩:=L3 (x a o q);rw[e]at z;cases z
structure ExAt(h0 h:Heap)(H:Hp)(a:Addr)(cls:aH):Prop where
 new:h0.get? a=none
 free:H a=none
 obj:∃oe vs,h.get? a=some oe/\oe.cls=cls/\oe.data=.fields vs/\1<vs.size/\(vs[1]?=some .none\/∃T oT ts,vs[1]?=some (.ref T)/\h0.get? T=none/\T≠a/\H T=none/\h.get? T=some oT/\oT.data=.fields ts/\ts[3]?=some .none)
def F0(P:bQ)(w:cF):AV:=λouter H s E e s'=>∃a cls H',e=.ref a/\s'.os=s.os/\mS s'.gens/\Un (Ft outer) [] H H' s.heap s'.heap/\HOk P w H' s'.heap/\ExAt s.heap s'.heap H' a cls/\E cls none H'
def Hf:pj (F0 P w) X E0:=λ_ _ _ _ _ _ _ h=>by
 obtain⟨_,_,_,_,_,_,_,_,_,q⟩:=h;exact q.elim
def He{P:bQ}{w:cF}{K:bA}{mg:Str->Option aH}{base:Heap}{N:List Str}{qual:Str}{scope:gI}{f:Addr}{cd:aH}{A:cS}{outer:List Env}{s₀:aN}{H₀:Hp}{E:XK}:
  pj (F0 P w) (Bx (F0 P w) P w K mg base N qual scope f cd A outer s₀ H₀ E) E:=λpins U H s e s' I c=>by
 obtain⟨a,cls,H',rfl,os,bare,un,hok,ex,q⟩:=c;have J:=I.call' os un hok bare (λb z=>absurd z (by simp));obtain⟨oe,vs,he,rfl,hd,hsz,htb⟩:=ex.obj;show aQ _ _ (leaving _ (.ref a)) _ _ _;have tb:vs[1]?=some .none\/∃T oT ts,vs[1]?=some (.ref T)/\T≠a/\s'.heap.get? T=some oT/\oT.data=.fields ts/\ts[3]?=some .none:=by
  rcases htb with z|⟨T,oT,ts,z1,_,z2,_,z3,z4,z5⟩
  ·exact .inl z
  ·exact .inr ⟨T,oT,ts,z1,z2,z3,z4,z5⟩
 have tbn:∀b,vs[1]?=some (.ref b)->s.heap.get? b=none/\H' b=none:=λb z=>by
  rcases htb with z'|⟨T,oT,ts,z1,z0,z2,zf,z3,z4,z5⟩
  ·rw[z']at z;cases z
  ·rw[z1]at z;cases z;exact⟨z0,zf⟩
 have nox:∀b:Addr,b∉(Bx (F0 P w) P w K mg base N qual scope f cd A outer s₀ H₀ E).ex:=λb z=>absurd (show b∈([]:List Addr)from z) (by simp);have nw:∀b,s.heap.get? b=none->s₀.heap.get? b=none:=λb z=>by
  cases r:s₀.heap.get? b with
  |none=>rfl
  |some o=>
   obtain⟨o',r'⟩:=I.base.there b o r (nox b);rw[z]at r';cases r'
 refine QK J.ok.frames J.stack rfl he hd hsz tb λh' T hT k1 k2 hR=>?_;have old:∀b o,s₀.heap.get? b=some o->b≠a/\vs[1]?≠some (.ref b):=λb o q=>by
  refine⟨λz=>?_,λz=>?_⟩
  ·rw[z,nw a ex.new]at q;cases q
  ·rw[nw b (tbn b z).1]at q;cases q
 have nofr:∀b o,s₀.heap.get? b=some o->b∉Ft outer->b∉Ft (nV qual scope s₀.heap.objs.size f cd::outer):=λb o q n z=>by
  rcases List.mem_cons.mp (J.stkSub b z)with z|z
  ·have z':b=s₀.heap.objs.size:=z;exact absurd (z'▸aP q) (cO _)
  ·exact n z
 have jb:Un (Ft outer) [] H₀ H' s₀.heap s'.heap:=J.base;refine⟨a,oe.cls,H',rfl,J.os,bare,⟨λb o q n hb hx=>?_,λb o q n hb hx=>?_,jb.free,λb o q hx=>?_,jb.tups,jb.frzs,jb.tbls⟩,λb o q=>?_,⟨nw a ex.new,ex.free,?_⟩,q⟩
 ·exact k1 b o (old b o q).1 (old b o q).2 (nofr b o q hb) (jb.keep b o q n hb hx)
 ·obtain⟨sl,e1⟩:=jb.slot b o q n hb hx;obtain⟨sl',e2⟩:=k2 b _ (old b o q).1 (old b o q).2 e1;exact⟨sl',e2⟩
 ·obtain⟨o',e1⟩:=jb.there b o q hx;obtain⟨sl,e2⟩:=k2 b o' (old b o q).1 (old b o q).2 e1;exact⟨_,e2⟩
 ·refine(hok b o q).stay (λc u hc r=>?_) (λ_ z=>z) λ_ _ z=>z;have tr:∃v,H' c=some v:=by
   rcases hc with rfl|hc
   ·exact⟨o,q⟩
   ·exact⟨_,hc⟩
  obtain⟨v,tr⟩:=tr;refine k1 c u (λz=>?_) (λz=>?_) (λz=>?_) r
  ·rw[z,ex.free]at tr;cases tr
  ·rw[(tbn c z).2]at tr;cases tr
  ·rw[J.stkFree c z]at tr;cases tr
 ·obtain⟨⟨oe',vs',x1,x2,x3,x4⟩,⟨oT,ts,y1,y2,y3⟩,hne⟩:=hR;exact⟨oe',vs',x1,x2,x3,(Array.getElem?_eq_some_iff.mp x4).1,.inr ⟨T,oT,ts,x4,mF (cM J.sz hT),hne,hok.fresh hT,y1,y2,y3⟩⟩
def LX{K:bA}(X:K.In h)(hm:mg x=some (.ref C))(q:gK K C bmB newId=true):OwnCls x C bmB newId mg h:=by
 refine⟨hm,?_⟩;unfold gK at q;split at q
 ·rename_i dd cd sl ho;split at q
  ·rename_i C' bm k0 k1 k2 k3 n k5 hro hs;simp only[aO,beq_iff_eq,nR]at q;obtain⟨⟨⟨⟨⟨rfl,rfl⟩,hdel⟩,ht⟩,hk⟩,hni⟩:=q;obtain⟨nm,bs,mro,ns,qn,hd,sn,sub,ab,col,del⟩:=cd;dsimp only at hro hdel hk hni;subst hro hdel;obtain⟨l⟩:=sl;obtain rfl:l=[k0,k1,k2,k3,some (.builtin n),k5]:=hs;exact⟨bm,ns,nm,qn,bs,hd,sn,sub,ab,col,dd,k0,k1,k2,k3,k5,_,X _ _ ho,.of_isNs (PySem.W.isNs_of_in X hk),PySem.W.nsMap_none_of_in X hk hni,PySem.W.tail_of_in X ht⟩
  ·cases q
 ·cases q
structure ExBase(bmB:List aH)(newId:String):Prop where
 facts:∃Bn inN bmN B nid initId,ExcBaseFacts Bn newId inN bmN/\bmB.contains (.type Bn)=true/\ExcBaseFacts B nid initId bmB
def NJ(C:Addr)(E:XK)(t:TA):TS:=λ_ U H=>t U H λvs H1=>vs.length<=aM/\E (.ref C) none H1
def Yg{X:Cx}{x:Str}{C:Addr}{bmB:List aH}{newId:String}{E:XK}{e₀:Expr}{rest:List Expr}{t:TA}{np cpos pos:Pos}(hc:X.calm=true)(hg:Gl X x)(hm:X.mg x=some (.ref C))(hx:gK X.K C bmB newId=true)(B:ExBase bmB newId)
  (hp:pj (F0 X.prog X.w) X E)(ha:PA X (e₀::rest) t)(hdb:(x==("__debug__":Str))=false:=by decide)(he:bF (e₀::rest) X.env=(false,eval e₀ X.env)::bF rest X.env:=by rfl)(hpl:(fG cpos (bF rest X.env)).any (·.1)=false:=by rfl):
  PS X (.Raise (some (.Call (.Name x np) (e₀::rest) [] cpos)) none pos) (NJ C E t):=by
 intro pins s U H D I h;obtain⟨Bn,inN,bmN,B',nid,initId,Fn,hBn,FB⟩:=B.facts;obtain⟨tl,N,nm,q,bs,hdct,sn,sub,ab,col,dd,k0,k1,k2,k3,k5,mN,hC,hN,hni,T⟩:=(LX I.ok.mod.kin hm hx).obj;refine wpAny_Raise_call_subU (C:=C) (nm:=nm) (q:=q) (N:=N) (bs:=bs) (bm:=tl) (hdct:=hdct) (sn:=sn) (sub:=sub) (ab:=ab) (col:=col) (dd:=dd) (k0:=k0) (k1:=k1) (k2:=k2) (k3:=k3) (k5:=k5) Fn hBn FB (mN:=mN) (T.hasType FB.hasBase) (I.ok.hd hc)
  (by rw[he];show(false||(fG cpos (bF rest X.env)).any (·.1))=false;rw[hpl];rfl) hni (Cb I hg hm ⟨rfl,?_⟩ hdb)
 have h2:=ha cpos pins s U H _ I h;rw[he]at h2⊢;refine jY (cK h2 (λus s2 ⟨vs,H1,I1,r,hl,qE⟩=>⟨rfl,?_,I1.bk _ _ hC,hN.keeps I1.bk,T.keeps I1.bk,λh' e made=>?_⟩) λ_ _ y=>y)
 ·show us.length<=aM;rw[<-r.length];exact hl
 ·obtain⟨tt,ge,_,_⟩:=made.there;refine hp pins U H1 s2 (.ref e) _ I1 ⟨e,.ref C,H1,rfl,rfl,I1.bare,Un.kept made.keeps,I1.hok.kept made.keeps,⟨made.new,Wj I1.hok made.new,⟨_,_,ge,rfl,rfl,by simp,.inl (by simp)⟩⟩,qE⟩
section
variable{P:bQ}{w:cF}{K:bA}{mg:Str->Option aH}{base:Heap}
def Fun.okE{x qual:Str}{st:Stmt}{f:Addr}{fd:jG}{N ps:List Str}{k:Nat}{sp:Sp}(F:Fun K x qual st f fd)(S:FnScope N ps (br st))(len:∀vs H Q E,sp vs H Q E->vs.length=ps.length)
   (hbody:∀(cdv:aH)(A:cS)(outer:List Env)(s:aN)(H:Hp)(vs:List V)(Q:VK)(E:XK),fd.code=cdv->Room k (A.deeper (nV qual (br st) s.heap.objs.size f cdv))->sp vs H Q E->
   ∃t,PSs (Bx (F0 P w) P w K mg base N qual (br st) f cdv A outer s H E) (f9 st) t/\t {nx:=λ_ H'=>Q .non H',rt:=Q} (q8 N vs) H):FnOk P w K mg base (F0 P w) (k+1) f fd ps sp:=by
 obtain⟨oc,od,kV,doc,pm,an,cdv,ct,osl,rfl,lk,hcd⟩:=F.ex;exact QS lk hcd S len λA outer s H vs Q E hr hsp=>hbody cdv A outer s H vs Q E rfl hr hsp
def FnOk.calm(F:FnOk P w K mg base (F0 P w) k f fd ps sp):FnOk P w K mg base OA k f fd ps (λvs H Q _=>sp vs H Q E0):=by
 refine⟨λvs H Q E h=>F.len vs H Q E0 h,λA outer s H args us vs Q E hr e0 hb r h=>kJ (F.run A outer s H args us vs Q E0 hr e0 hb r h) λrs s' z=>?_⟩;cases rs with
 |ok fl=>cases fl<;>exact z
 |error e=>
  obtain⟨_,_,_,_,_,_,_,_,_,q⟩:=z;exact q.elim
end
end L2
namespace Pu
open PySem PySem.Spec PyProof.Rows L2
def Wa{P:bQ}{w:cF}{Kf:bA}{mg:Str->Option aH}{base:Heap}{x qual:Str}{st:Stmt}{f:Addr}{fd:jG}{N ps:List Str}{k:Nat}{ms:List Bool}{Fb:En->Out}(F:Fun Kf x qual st f fd)(S:FnScope N ps (br st))(hm:ms.length=ps.length)
   (hbody:∀(cdv:aH)(A:cS)(outer:List Env)(s:aN)(H G0:Hp)(E:XK),fd.code=cdv->Room k (A.deeper (nV qual (br st) s.heap.objs.size f cdv))->
   zm (Bx (F0 P w) P w Kf mg base N qual (br st) f cdv A outer s H E) G0 H (ek ⟨Kf,Fh mg⟩ E) (f9 st) Fb):
  FnOk P w Kf mg base (F0 P w) (k+1) f fd ps (Pb ⟨Kf,Fh mg⟩ ms (WG ms N.length Fb)):=by
 refine F.okE S (λvs H Q E h=>h.1.trans hm) λcdv A outer s H vs Q E hc hr h=>?_;obtain⟨hl,gb,G,ds,sg,al,q⟩:=h;exact⟨_,hbody cdv A outer s H G E hc hr,G,_,Nz gb sg al,Ext.refl sg,DM sg q⟩
end Pu
end
section
namespace Pu
open PySem PySem.Spec PyProof.Rows L2
def SR(K:KA)(ms:List Bool)(f:List D->Res):Sp:=λvs H Q E=>vs.length=ms.length/\GOk H/\∃G ds,Same G H/\ArgsM K G H ms ds vs/\ResP (ek K E) G H (f ds) λd=>∃es,d=.lst es/\
 ∀a ws G' H',Ext G H G' H'->H a=none->G' a=none->H' a=some (.lst ws)->DenL K G' es ws->Q (.ref a) H'
structure SC where
 N:List Str
 sc:gI
 td:List Str
 lam:Bool
structure FS where
 ms:List Bool
 f:List D->Res
structure XT where
 exc:Str->Bool
 sub:Str->Str->Bool
 ve:Str->Bool
 nsub:Str->Str->Bool
structure GT where
 fns:Str->Option FS
 gstr:Str->Option Str
 xs:XT
 lam:Expr->List (Str×D)->List D->Res
 own:Str->Bool
noncomputable def wo:List Str:=["len","list","tuple","int","isinstance","range","all","any","sorted","set","min","max","abs","str","bool","dict","enumerate","zip","reversed","ValueError"]
def U5(X:Cx):Prop:=∃c P,(c,P,X.env.qual++"<lambda>")∈Ph/\X.env.code=.ref c/\PySem.W.CodeHd X.base c P/\
 (∃bm o,X.mg "__builtins__"=some (.ref bm)/\bm≠lZ/\bm≠cY/\X.base.get? bm=some o/\o.cls=.type "module"/\o.dict=some lZ/\o.data=.plain)/\
 (∀y c,X.env.cells.lookup y=some c->X.s₀.heap.objs.size<=c)/\∀y∈vg,X.fn y=false
structure RoomL(k:Nat)(A:cS):Prop where
 hd:A.handled=none
 dp:A.depth+3 * k+5<recursionLimit
 un:A.units+16 * k+190<eD
def U6(P:bQ)(w:cF)(K:bA)(mg:Str->Option aH)(base:Heap)(k:Nat)(e:Expr)(fs:List (Str×D))(ds:List D)(d:D):Prop:=
 ∀(A:cS)(outer:List Env)(s:aN)(H G:Hp)(a:Addr)(us:List aH)(vs:List V)(Q:VK),RoomL k A->Env0 P w K mg base A outer s H->GOk H->Same G H->Den ⟨K,Fh mg⟩ G (.obj e fs) (.ref a)->DenL ⟨K,Fh mg⟩ G ds vs->Vals vs us->
  (∀v G' H',Ext G H G' H'->Den ⟨K,Fh mg⟩ G' d v->Q v H')->hU (bI P w) A (.call (.ref a) ⟨us,[]⟩) (CR (F0 P w) outer P w H s Q E0) s
structure XOk(X:Cx)(C:SC)(T:GT)(E:XK):Prop where
 n:X.N=C.N
 s:X.env.scope=C.sc
 nd:C.N.Nodup
 calm:X.calm=true
 units:X.A.units+65<eD
 fns:∀x s,T.fns x=some s->∃k f fd ps,Room k X.A/\X.mg x=some (.ref f)/\dI X.K (.ref f)=true/\Binds X.K fd ps []/\FnOk X.prog X.w X.K X.mg X.base (F0 X.prog X.w) k f fd ps (Pb (kx X) s.ms s.f)
 gstr:∀x y,T.gstr x=some y->∃t,X.mg x=some (.str y t)
 bl:∀x∈wo,X.mg x=none
 exc:∀x,T.xs.exc x=true->∃C bm newId,X.mg x=some (.ref C)/\gK X.K C bm newId=true/\ExBase bm newId
 sub:∀c y,T.xs.sub c y=true->∃Cy,X.mg y=some (.ref Cy)/\eW X.K (.ref (Fh X.mg c)) (.ref Cy)=some true
 ve:∀c,T.xs.ve c=true->PySem.W.kitCls X.K (.ref (Fh X.mg c)) (.type "ValueError")=some true
 nsub:∀c y,T.xs.nsub c y=true->∃Cy,X.mg y=some (.ref Cy)/\eW X.K (.ref (Fh X.mg c)) (.ref Cy)=some false
 goes:pj (F0 X.prog X.w) X E
 lamc:C.lam=true->U5 X
 lams:∀e fs ds d,T.lam e fs ds=.ok d->∃k,Room k X.A/\U6 X.prog X.w X.K X.mg X.base k e fs ds d
 own:∀x s,T.own x=true->T.fns x=some s->∃k f fd ps,Room k X.A/\X.mg x=some (.ref f)/\dI X.K (.ref f)=true/\Binds X.K fd ps []/\FnOk X.prog X.w X.K X.mg X.base (F0 X.prog X.w) k f fd ps (SR (kx X) s.ms s.f)
def vis(sc:gI)(x:Str):Bool:=match sc.names.lookup x with
 |some .local=>true
 |some .cell=>true
 |some .free=>true
 |_=>false
def Z7(h:vis sc x=true):PP sc x:=by
 unfold vis at h;unfold PP;cases e:sc.names.lookup x with
 |none=>rw[e]at h;cases h
 |some k=>rw[e]at h;cases k<;>first|exact .inl rfl|exact .inr (.inl rfl)|exact .inr (.inr rfl)|cases h
def K6(sc:gI)(x:Str):Bool:=match sc.names.lookup x with
 |some .local=>true
 |some .cell=>true
 |_=>false
def Dp(h:K6 sc x=true):L2.GB sc x:=by
 unfold K6 at h;unfold L2.GB;cases e:sc.names.lookup x with
 |none=>rw[e]at h;cases h
 |some k=>rw[e]at h;cases k<;>first|exact .inl rfl|exact .inr rfl|cases h
def pq(x:Str):Bool:= !(x==("__debug__":Str)) && !(x==("__classdict__":Str))
def L4(h:pq x=true):(x==("__debug__":Str))=false:=by
 unfold pq at h;simp only[aO,nR]at h;exact h.1
def Xn(h:pq x=true):(x==("__classdict__":Str))=false:=by
 unfold pq at h;simp only[aO,nR]at h;exact h.2
def Wu(x:Str):List Str->Nat->Option Nat
 |[],_=>none
 |y::r,i=>if x=y then some i else Wu x r (i+1)
theorem I8:∀{l:List Str}{i j:Nat},Wu x l i=some j->i<=j/\l[j - i]?=some x
 |[],_,_,h=>by cases h
 |y::r,i,j,h=>by
  unfold Wu at h
  by_cases e:x=y
  ·rw[aJ e]at h;cases h;subst e;exact⟨aR _,by simp⟩
  ·rw[aK e]at h;obtain⟨h1,h2⟩:=I8 h;refine⟨by lia,?_⟩;rw[show j - i=(j - (i+1))+1 by lia];simpa using h2
def slot(C:SC)(x:Str):Option Nat:=if vis C.sc x && pq x then Wu x C.N 0 else none
def Ju{C:SC}(h:slot C x=some i):C.N[i]?=some x/\vis C.sc x=true/\pq x=true:=by
 unfold slot at h
 by_cases e:(vis C.sc x && pq x)=true
 ·rw[aJ e]at h;rw[aO]at e;obtain⟨_,q⟩:=I8 h;exact⟨by simpa using q,e.1,e.2⟩
 ·rw[aK e]at h;cases h
def J5(C:SC)(x:Str):Bool:=decide (C.sc.names.lookup x=some .globalImplicit) && pq x
section
variable{X:Cx}{C:SC}{T:GT}{B:Hp}{E:EK}{x:Str}{i:Nat}{pos:Pos}
def XOk.var(O:XOk X C T E')(h:slot C x=some i):PE X (.Name x pos) (Fy i):=by
 obtain⟨h1,h2,h3⟩:=Ju h;exact LO (by rw[O.n];exact h1) (by rw[O.s];exact Z7 h2) (L4 h3) (Xn h3)
def XOk.gl(O:XOk X C T E')(h:J5 C x=true):Gl X x/\(x==("__debug__":Str))=false:=by
 unfold J5 at h;rw[aO]at h;refine⟨?_,L4 h.2⟩;show X.env.scope.names.lookup x=_;rw[O.s];exact of_decide_eq_true h.1
end
def jz:En->Res:=λ_=>.st
def JI:En->ResL:=λ_=>.st
def vo:En->Out:=λ_=>.st
section
variable{X:Cx}{B G0:Hp}{E:EK}{e tg:Expr}{es:List Expr}
def cg:gj X B E e jz:=λpins s U H Q I ⟨G,W,R,q⟩=>q.elim
def RY:AN X B E e jz:=λpins s U H Q I ⟨G,W,R,q⟩=>q.elim
def Bh:Fi X B E e jz:=λpins s U H Q I ⟨G,W,R,q⟩=>q.elim
def HX:Px X B E ms es JI:=λpos pins s U H Q I ⟨G,W,R,q⟩=>q.elim
def pz{st:Stmt}:tq X G0 B E st vo:=λpins s U H D I ⟨G,W,R,x,q⟩=>q.elim
end
theorem Aa:∀{l:List (Str×iP)},(y,gJ)∈l↔y∈gp l
 |[]=>by simp[gp]
 |(n,k)::r=>by
  unfold gp
  by_cases h:k=.free
  ·subst h;rw[aJ rfl,cR,cR,Aa];constructor
   ·rintro (z|z)
    ·cases z;exact .inl rfl
    ·exact .inr z
   ·rintro (z|z)
    ·subst z;exact .inl rfl
    ·exact .inr z
  ·rw[aK h,cR,Aa];constructor
   ·rintro (z|z)
    ·cases z;exact absurd rfl h
    ·exact z
   ·exact .inr
def oi(scope sc:gI):gI:=
 {scope with names:=scope.names.map λ(n,k)=>if(k==.free && sc.kind==.function && sc.names.lookup n==some .cell)then(n,.cell)else(n,k)}
def slots(C:SC):List Str->Option (List Nat)
 |[]=>some []
 |y::r=>match slot C y,slots C r with
  |some i,some is=>some (i::is)
  |_,_=>none
noncomputable def P8(C:SC)(scope:gI)(y:Str):Bool:=
 (decide (C.sc.names.lookup y=some .cell)||decide (C.sc.names.lookup y=some .free)) &&
 (decide ((oi scope C.sc).names.lookup y=some .cell)||decide ((oi scope C.sc).names.lookup y=some .free))
noncomputable def ue(C:SC)(scope:gI)(xs:List Str):Bool:=
 decide (scope.kind=.function) && (scope.names.all λy=>decide (y.2≠.cell)) && (scope.names.all λy=> !decide (y.2=.local)||decide (scope.names.lookup y.1=some .local)) &&
 (xs.all λx=>decide (scope.names.lookup x=some .local)) && decide ((xs++gp scope.names).Nodup) && (gp scope.names).all (P8 C scope)
theorem Mm{C:SC}:∀{M:List Str}{ix:List Nat},slots C M=some ix->∀{X:Cx}{scope:gI}{cl:List (Str×Addr)},X.N=C.N->X.env.scope=C.sc->(∀y∈M,∃c,cl.lookup y=some c)->M.all (P8 C scope)=true->Caps X scope cl M ix
 |[],ix,h,X,scope,cl,_,_,_,_=>by cases h;exact rfl
 |y::r,ix,h,X,scope,cl,hn,hs,hc,ha=>by
  unfold slots at h;cases e1:slot C y with
  |none=>rw[e1]at h;cases h
  |some i=>
   cases e2:slots C r with
   |none=>rw[e1,e2]at h;cases h
   |some is=>
    rw[e1,e2]at h;cases h;rw[cP,aO]at ha;obtain⟨q1,q2,q3⟩:=Ju e1;have q4:=ha.1;unfold P8 at q4;rw[aO,fY,fY,decide_eq_true_eq,decide_eq_true_eq,decide_eq_true_eq,decide_eq_true_eq]at q4;refine⟨i,is,rfl,⟨by rw[hn];exact q1,by rw[hs];exact Z7 q2,?_,hc y (aI),?_⟩,Mm e2 hn hs (λz hz=>hc z (aE _ hz)) ha.2⟩
    ·show X.env.scope.names.lookup y≠_;rw[hs];rcases q4.1 with z|z<;>rw[z]<;>decide
    ·have:mT scope X.env=oi scope C.sc:=by
      unfold mT oi;rw[<-hs];rfl
     rw[this];exact q4.2
theorem Ml{C:SC}(nd:C.N.Nodup):∀{M:List Str}{ix:List Nat},slots C M=some ix->M.Nodup->ix.Nodup/\∀i∈ix,∃y∈M,C.N[i]?=some y
 |[],ix,h,_=>by cases h;exact⟨fI,λi hi=>by simp at hi⟩
 |y::r,ix,h,hM=>by
  unfold slots at h;cases e1:slot C y with
  |none=>rw[e1]at h;cases h
  |some i=>
   cases e2:slots C r with
   |none=>rw[e1,e2]at h;cases h
   |some is=>
    rw[e1,e2]at h;cases h;obtain⟨m1,m2⟩:=List.nodup_cons.mp hM;obtain⟨n1,n2⟩:=Ml nd e2 m2;obtain⟨q1,_,_⟩:=Ju e1;refine⟨List.nodup_cons.mpr ⟨λhi=>?_,n1⟩,λj hj=>?_⟩
    ·obtain⟨z,hz,ez⟩:=n2 i hi;rw[q1]at ez;cases ez;exact m1 hz
    ·rcases List.mem_cons.mp hj with rfl|hj
     ·exact⟨y,aI,q1⟩
     ·obtain⟨z,hz,ez⟩:=n2 j hj;exact⟨z,aE _ hz,ez⟩
theorem ud(env:Env):∀(names:List (Str×iP))(cs:List (Str×Addr)),(∀y∈gp names,∃c,env.cells.lookup y=some c)->∃cl,j6 env names cs=some cl
 |[],cs,_=>⟨cs,rfl⟩
 |(n,k)::r,cs,h=>by
  unfold j6
  by_cases hk:k=.free
  ·subst hk;rw[aJ rfl];obtain⟨c,e⟩:=h n (by unfold gp;rw[aJ rfl];exact aI);rw[e];exact ud env r _ λy hy=>h y (by unfold gp;rw[aJ rfl];exact aE _ hy)
  ·rw[aK hk];exact ud env r cs λy hy=>h y (by unfold gp;rw[aK hk];exact hy)
theorem uc(env:Env):∀(names:List (Str×iP))(cs cl:List (Str×Addr)),j6 env names cs=some cl->∀y,(cs.lookup y=none)->y∉gp names->cl.lookup y=none
 |[],cs,cl,h,y,q,_=>by cases h;exact q
 |(n,k)::r,cs,cl,h,y,q,m=>by
  unfold j6 at h
  by_cases hk:k=.free
  ·subst hk;rw[aJ rfl]at h;unfold gp at m;rw[aJ rfl,cR,not_or]at m;cases hc:env.cells.lookup n with
   |none=>rw[hc]at h;cases h
   |some c=>
    rw[hc]at h;refine uc env r _ cl h y ?_ m.2;have hb:(y==n)=false:=by simpa using m.1
    rw[oH,hb];exact q
  ·rw[aK hk]at h;unfold gp at m;rw[aK hk]at m;exact uc env r cs cl h y q m
def uf{X:Cx}{scope:gI}(O:XOk X C T E')(ok:X.Ok)(h:ue C scope xs=true)(hx:slots C (gp scope.names)=some ix):∃cl,CompOk X scope cl xs (gp scope.names) ix:=by
 unfold ue at h;simp only[aO,decide_eq_true_eq]at h;obtain⟨⟨⟨⟨⟨h1,h2⟩,h3⟩,h4⟩,h5⟩,h6⟩:=h;have hcells:∀y∈gp scope.names,∃c,X.env.cells.lookup y=some c:=λy hy=>by
  have q:=List.all_eq_true.mp h6 y hy;unfold P8 at q;rw[aO,fY,decide_eq_true_eq,decide_eq_true_eq,<-O.s]at q;exact ok.has y q.1
 obtain⟨cl,hcl⟩:=ud X.env scope.names [] hcells;obtain⟨n0,n2,n1⟩:=List.nodup_append.mp h5;have hfree:∀y∈gp scope.names,∃c,cl.lookup y=some c:=λy hy=>ox X.env _ _ cl hcl y (.inr (Aa.mpr hy));refine⟨cl,hcl,h1,λy hy=>?_,λy hy e=>?_,λx hx=>of_decide_eq_true (List.all_eq_true.mp h4 x hx),λx hx=>uc X.env _ _ cl hcl x rfl (λhm=>n1 x hx x hm rfl),h5,(Ml O.nd hx n2).1,Mm hx O.n O.s hfree h6⟩
 ·exact of_decide_eq_true (List.all_eq_true.mp h2 y hy)
 ·have q:=List.all_eq_true.mp h3 y hy;rw[decide_eq_true e]at q;exact of_decide_eq_true (by simpa using q)
def rl(C:SC)(scope:gI)(xs:List Str):SC:=⟨xs++gp scope.names,oi scope C.sc,[],false⟩
def x8{scope:gI}(O:XOk X C T E')(h:ue C scope xs=true)(Cc s₀ H₀ ex pn):XOk (jx X scope cl (xs++gp scope.names) xs Cc s₀ H₀ ex pn) (rl C scope xs) T E0 where
 n:=rfl
 s:=by
  show mT scope X.env=_;unfold mT;show _=oi scope C.sc;unfold oi;rw[<-O.s];rfl
 nd:=by
  unfold ue at h;simp only[aO,decide_eq_true_eq]at h;exact h.1.2
 calm:=O.calm
 units:=O.units
 fns:=O.fns
 gstr:=O.gstr
 bl:=O.bl
 exc:=O.exc
 sub:=O.sub
 ve:=O.ve
 nsub:=O.nsub
 goes:=Hf
 lamc:=λh=>by cases h
 lams:=O.lams
 own:=O.own
def XOk.none(O:XOk X C T E):XOk X C T E0:=⟨O.n,O.s,O.nd,O.calm,O.units,O.fns,O.gstr,O.bl,O.exc,O.sub,O.ve,O.nsub,Hf,O.lamc,O.lams,O.own⟩
end Pu
end
section
namespace Pu
open PySem PySem.Spec PyProof.Rows L2 PySem.SeqAt
def IE(A:cS)(s:aN)(y x:aH)(b:Bool):Prop:=
 ∀(prog:bQ)(w:cF)(E:aH->aN->Prop)(Q:aH->aN->Prop),Q (.bool b) s->aQ (bI prog w) A (richCompare .Lt y x) Q E s
def Ag(e c:Nat->Bool)(fin:Bool):List Nat->Bool
 |[]=>fin
 |i::r=>if e i then Ag e c fin r else c i
def NG(l m:Addr)(xs ys:Array aH)(n k:Nat)(dd dm:Option Addr)(sl sm:Array (Option aH))(e c:Nat->Bool):
  Meets (Builtin.«tuple.__lt__» ⟨[.ref l,.ref m],[]⟩) (λA R s=>
   s.heap.get? l=some {cls:=.type "tuple",dict:=dd,data:=.seq xs n,slots:=sl}/\
   s.heap.get? m=some {cls:=.type "tuple",dict:=dm,data:=.seq ys k,slots:=sm}/\
   (∀j (p:j<xs.size) (q:j<ys.size),EqAt A.in1 s xs[j] ys[j] (e j)/\(e j=false->IE A.in1 s xs[j] ys[j] (c j)))/\
   R (.ok (.ret (.bool (Ag e c (decide (xs.size<ys.size)) (bT (min xs.size ys.size)))))) s):=
 .of_wp λprog w A R s h=>by
  obtain⟨hp,g,d,tk,os⟩:=s;obtain⟨hl,hm,he,h⟩:=h;have f2:=AutoSeq1.sub_tuple_tuple;have hZ:(xs.toList.zip ys.toList).length=min xs.size ys.size:=by simp
  wp_walk using jH hl,jH hm,eP _ (λrest b s'=>b.1=none/\s'=⟨hp,g,d,tk,os⟩/\∃i,
   rest=(xs.toList.zip ys.toList).drop i/\R (.ok (.ret (.bool (Ag e c (decide (xs.size<ys.size)) ((bT (min xs.size ys.size)).drop i))))) ⟨hp,g,d,tk,os⟩) _
  case turn=>
   rintro ⟨y,x⟩ rest b s' ⟨hb',rfl,i,hz,hR⟩
   have lt0:i<(xs.toList.zip ys.toList).length:=by
    by_cases z:i<(xs.toList.zip ys.toList).length
    ·exact z
    ·rw[jE (oF z)]at hz;cases hz
   have lt1:i<min xs.size ys.size:=by rw[<-hZ];exact lt0
   have p:i<xs.size:=by lia
   have q:i<ys.size:=by lia
   rw[eB lt0]at hz;injection hz with hyx hrest
   obtain rfl:y=xs[i]:=by simpa using congrArg Prod.fst hyx
   obtain rfl:x=ys[i]:=by simpa using congrArg Prod.snd hyx
   have hd:(bT (min xs.size ys.size)).drop i=i::(bT (min xs.size ys.size)).drop (i+1):=by simp[eB,lt1]
   rw[hd]at hR;refine aA ((he i p q).1 prog w _ _ ?_);cases hy:e i with
   |true=>
    simp only[Ag,hy,if_true]at hR
    wp_walk
    exact⟨rfl,rfl,i+1,hrest,hR⟩
   |false=>
    simp only[Ag,hy,Bool.false_eq_true,if_false]at hR;rw[aJ (show(!false)=true from rfl)];refine aA (iG (aA ((he i p q).2 hy prog w _ _ ?_)))
    wp_walk
    exact⟨_,rfl,hR⟩
  case fin=>
   rintro ⟨b1,b2⟩ s' ⟨hb',rfl,i,hz,hR⟩
   simp only at hb';subst hb';have ge0:min xs.size ys.size<=i:=by
    by_cases z:i<(xs.toList.zip ys.toList).length
    ·rw[eB z]at hz;cases hz
    ·lia
   rw[jE (by simpa using ge0)]at hR
   wp_walk
   exact⟨_,rfl,by simpa[Builtin.Tuple.tupleCompareSizes,Ag]using hR⟩
  case h=>exact⟨rfl,rfl,0,rfl,by simpa using h⟩
mutual
def CF:jC->jC->Option Bool
 |.int i,.int j=>some (decide (i<j))
 |.str x,.str y=>some (decide (x.cps.toList<y.cps.toList))
 |.tuple xs,.tuple ys=>gw xs ys
 |_,_=>none
def gw:List jC->List jC->Option Bool
 |[],[]=>some false
 |[],_::_=>some true
 |_::_,[]=>some false
 |x::xs,y::ys=>match CF x y,gw xs ys with
  |some a,some b=>some (if bZ x y then b else a)
  |_,_=>none
end
def r9(xs ys:List jC)(j:Nat):Bool:=match xs[j]?,ys[j]? with
 |some x,some y=>(CF x y).getD false
 |_,_=>false
def uj(h:gw (x::xs) (y::ys)=some c):∃a b,CF x y=some a/\gw xs ys=some b/\c=if bZ x y then b else a:=by
 rw[gw]at h;cases h1:CF x y with
 |none=>rw[h1]at h;cases h
 |some a=>
  cases h2:gw xs ys with
  |none=>rw[h1,h2]at h;cases h
  |some b=>rw[h1,h2]at h;cases h;exact⟨a,b,rfl,rfl,rfl⟩
theorem Dx:∀l:List Nat,Ag e c fin (l.map (· +1))=Ag (λj=>e (j+1)) (λj=>c (j+1)) fin l
 |[]=>rfl
 |i::r=>by
  rw[aG];unfold Ag;rw[Dx r]
theorem Q2:∀{xs ys:List jC}{c:Bool},gw xs ys=some c->Ag (pairEq xs ys) (r9 xs ys) (decide (xs.length<ys.length)) (bT (min xs.length ys.length))=c
 |[],[],c,h=>by cases h;rfl
 |[],_::_,c,h=>by cases h;simp[Ag]
 |_::_,[],c,h=>by cases h;simp[Ag]
 |x::xs,y::ys,c,h=>by
  obtain⟨a,b,h1,h2,rfl⟩:=uj h;have e:min (x::xs).length (y::ys).length=min xs.length ys.length+1:=by simp
  have ih:=Q2 h2;rw[e,List.range_succ_eq_map];unfold Ag;have e0:pairEq (x::xs) (y::ys) 0=bZ x y:=rfl;have c0:r9 (x::xs) (y::ys) 0=a:=by simp[r9,h1]
  rw[e0,c0,show(Nat.succ:Nat->Nat)=(· +1)from rfl,Dx];have d:(decide ((x::xs).length<(y::ys).length))=decide (xs.length<ys.length):=by simp
  rw[d];have e1:(λj=>pairEq (x::xs) (y::ys) (j+1))=pairEq xs ys:=rfl;have c1:(λj=>r9 (x::xs) (y::ys) (j+1))=r9 xs ys:=rfl;rw[e1,c1,ih]
mutual
theorem D5:∀(da db:jC)(A:cS)(s:aN)(a b:aH)(as bs:List Addr)(c:Bool),Reads s.heap a da as->Reads s.heap b db bs->da.canLay0=true->db.canLay0=true->A.units+min da.depth db.depth<eD->
  CF da db=some c->IE A s a b c
 |.int i,.int j,A,s,_,_,_,_,c,ra,rb,ha,hb,hu,h=>by
  cases ra;cases rb;cases h;exact λprog w E Q q=>(show aQ _ _ (cN .Lt _ _) _ _ _ from PyProof.Rows.lt_int q)
 |.str i,.str j,A,s,_,_,_,_,c,ra,rb,ha,hb,hu,h=>by
  cases ra;cases rb;cases h;exact λprog w E Q q=>(show aQ _ _ (cN .Lt _ _) _ _ _ from PyProof.Rows.lt_str q)
 |.tuple xs,.tuple ys,A,s,_,_,_,_,c,ra,rb,ha,hb,hu,h=>by
  cases ra with
  |@tuple l o vs n _ as₁ h1 h2 h3 h4=>
   cases rb with
   |@tuple l' o' vs' n' _ bs₁ k1 k2 k3 k4=>
    have h':gw xs ys=some c:=h;have n1:vs.size=xs.length:=by simpa using ReadsAll.length _ _ _ h4
    have n2:vs'.size=ys.length:=by simpa using ReadsAll.length _ _ _ k4
    obtain⟨cl,dd,dt,sl⟩:=o;obtain⟨cl',dd',dt',sl'⟩:=o';simp only at h2 h3 k2 k3;subst h2 h3 k2 k3;intro prog w E Q q;refine richCompare_meets_room (op:=.Lt) ⟨_,h1,rfl⟩ ⟨_,k1,rfl⟩ F.slot_tuple_lt F.entry_tuple_lt (F.args_tuple_lt_2 _ _) (NG l l' vs vs' n n' dd dd' sl sl' (pairEq xs ys) (r9 xs ys)) ⟨h1,k1,λj p r=>⟨?_,λ_=>?_⟩,?_⟩ (room_here hu)
    ·have z:=eqAt_readsAll xs ys A.in1 s vs.toList vs'.toList _ _ h4 k4 ha hb (room_in hu) j (by simpa using p) (by simpa using r);simpa using z
    ·have z:=wc xs ys A.in1 s vs.toList vs'.toList _ _ c h4 k4 ha hb (room_in hu) h' j (by simpa using p) (by simpa using r);simpa using z
    ·have e:=Q2 h';rw[<-n1,<-n2]at e;rw[e];exact show lY c≠Value.notImplemented/\Q (.bool c) s from⟨(λx=>nomatch x),q⟩
 |.none,_,_,_,_,_,_,_,_,_,_,_,_,_,h=>by cases h
 |.bool _,_,_,_,_,_,_,_,_,_,_,_,_,_,h=>by cases h
 |.list _,_,_,_,_,_,_,_,_,_,_,_,_,_,h=>by cases h
 |.dict _,_,_,_,_,_,_,_,_,_,_,_,_,_,h=>by cases h
 |.int _,.none,_,_,_,_,_,_,_,_,_,_,_,_,h=>by cases h
 |.int _,.bool _,_,_,_,_,_,_,_,_,_,_,_,_,h=>by cases h
 |.int _,.str _,_,_,_,_,_,_,_,_,_,_,_,_,h=>by cases h
 |.int _,.list _,_,_,_,_,_,_,_,_,_,_,_,_,h=>by cases h
 |.int _,.tuple _,_,_,_,_,_,_,_,_,_,_,_,_,h=>by cases h
 |.int _,.dict _,_,_,_,_,_,_,_,_,_,_,_,_,h=>by cases h
 |.str _,.none,_,_,_,_,_,_,_,_,_,_,_,_,h=>by cases h
 |.str _,.bool _,_,_,_,_,_,_,_,_,_,_,_,_,h=>by cases h
 |.str _,.int _,_,_,_,_,_,_,_,_,_,_,_,_,h=>by cases h
 |.str _,.list _,_,_,_,_,_,_,_,_,_,_,_,_,h=>by cases h
 |.str _,.tuple _,_,_,_,_,_,_,_,_,_,_,_,_,h=>by cases h
 |.str _,.dict _,_,_,_,_,_,_,_,_,_,_,_,_,h=>by cases h
 |.tuple _,.none,_,_,_,_,_,_,_,_,_,_,_,_,h=>by cases h
 |.tuple _,.bool _,_,_,_,_,_,_,_,_,_,_,_,_,h=>by cases h
 |.tuple _,.int _,_,_,_,_,_,_,_,_,_,_,_,_,h=>by cases h
 |.tuple _,.str _,_,_,_,_,_,_,_,_,_,_,_,_,h=>by cases h
 |.tuple _,.list _,_,_,_,_,_,_,_,_,_,_,_,_,h=>by cases h
 |.tuple _,.dict _,_,_,_,_,_,_,_,_,_,_,_,_,h=>by cases h
theorem wc:∀(xs ys:List jC)(A:cS)(s:aN)(vs ws:List aH)(as bs:List Addr)(c:Bool),ReadsAll s.heap vs xs as->ReadsAll s.heap ws ys bs->bC xs=true->bC ys=true->
  A.units+min (cI xs) (cI ys)<eD->gw xs ys=some c->∀j (p:j<vs.length) (q:j<ws.length),IE A s vs[j] ws[j] (r9 xs ys j)
 |[],_,_,_,_,_,_,_,_,ra,_,_,_,_,_,j,p,_=>by cases ra;exact absurd p (Nat.not_lt_zero _)
 |_::_,[],_,_,_,_,_,_,_,_,rb,_,_,_,_,j,_,q=>by cases rb;exact absurd q (Nat.not_lt_zero _)
 |x::xs,y::ys,A,s,_,_,_,_,c,ra,rb,ha,hb,hu,h,j,p,q=>by
  have ha':x.canLay0=true/\bC xs=true:=by simpa[bC]using ha
  have hb':y.canLay0=true/\bC ys=true:=by simpa[bC]using hb
  obtain⟨a,b,h1,h2,_⟩:=uj h;cases ra with
  |cons r rs=>
   cases rb with
   |cons r' rs'=>
    cases j with
    |zero=>
     have e:r9 (x::xs) (y::ys) 0=a:=by simp[r9,h1]
     rw[e];exact D5 x y A s _ _ _ _ a r r' ha'.1 hb'.1 (room_head hu) h1
    |succ j=>exact wc xs ys A s _ _ _ _ b rs rs' ha'.2 hb'.2 (room_tail hu) h2 j (Nat.lt_of_succ_lt_succ p) (Nat.lt_of_succ_lt_succ q)
end
end Pu
end
section
namespace Pu
open PySem PySem.Spec PyProof.Rows L2
def ur(d e:D):Option D:=match e with
 |.dct false kvs=>(bz d).map λj=>.bl (bg kvs j).isSome
 |e=>Me d e
def b0(d e:D):Option D:=match e with
 |.dct false kvs=>(bz d).map λj=>.bl !(bg kvs j).isSome
 |e=>lr d e
section
variable{X:Cx}
def El(neg:Bool):R2:=λx y H Q=>∃a o,y=.ref a/\DGet H a x o/\Q (.bl (if neg then !o.isSome else o.isSome)) H
def Xp(hu:X.A.units+5<eD):OpR X (cN .In) (El false):=by
 intro pins s U H x y v u Q I rx ry q;obtain⟨a,o,rfl,dg,q⟩:=q;cases ry;exact WJ hu I dg rx λs' I'=>⟨.bl o.isSome,H,I',rfl,q⟩
def L5(hu:X.A.units+5<eD):OpR X (cN .NotIn) (El true):=by
 intro pins s U H x y v u Q I rx ry q;obtain⟨a,o,rfl,dg,q⟩:=q;cases ry;exact AB hu I dg rx λs' I'=>⟨.bl !o.isSome,H,I',rfl,q⟩
def Wl{K:KA}{neg:Bool}{G H:Hp}{x y:V}{dx d:D}{kvs:List (D×D)}(sg:Same G H)(ax:Arg K G H dx x)(ay:Arg K G H (.dct false kvs) y)(ed:((bz dx).map λj=>D.bl (if neg then !(bg kvs j).isSome else(bg kvs j).isSome))=some d)(Q:VK)(q:∀v G' H',Ext G H G' H'->Den K G' d v->Q v H'):El neg x y H Q:=by
 cases ek:bz dx with
 |none=>rw[ek]at ed;cases ed
 |some j=>
  rw[ek]at ed;cases ed;obtain⟨l,es,rfl,h1,dl⟩:=Arg.dctK sg ay;rw[o3 ax ek];have e:(bg kvs j).isSome=(me es j).isSome:=by
   cases el:bg kvs j with
   |none=>rw[(dl.look j).2 el];rfl
   |some d=>obtain⟨v,ev,_⟩:=(dl.look j).1 d el;rw[ev];rfl
  refine⟨l,me es j,rfl,DGet.k h1,q _ G H (Ext.refl sg) ?_⟩;show Den K G (.bl (if neg=true then !(bg kvs j).isSome else(bg kvs j).isSome)) _;rw[e];rfl
def Yd:ib (kx X) ur (λx y H Q=>Uc (kx X) false x y H Q\/El false x y H Q):=λG H x y dx dy d sg ax ay ed Q q=>by
 unfold ur at ed;split at ed
 ·exact .inr (Wl (neg:=false) sg ax ay ed Q q)
 ·exact .inl (EW G H x y dx _ d sg ax ay ed Q q)
def Mb:ib (kx X) b0 (λx y H Q=>Uc (kx X) true x y H Q\/El true x y H Q):=λG H x y dx dy d sg ax ay ed Q q=>by
 unfold b0 at ed;split at ed
 ·exact .inr (Wl (neg:=true) sg ax ay ed Q q)
 ·exact .inl (Ov G H x y dx _ d sg ax ay ed Q q)
def JG(x y d:D)(h:ur x y=some d):∃b,d=.bl b:=by
 unfold ur at h;split at h
 ·obtain⟨j,_,rfl⟩:=Option.map_eq_some_iff.mp h;exact⟨_,rfl⟩
 ·exact Jd (f:=id) h
def Tq(x y d:D)(h:b0 x y=some d):∃b,d=.bl b:=by
 unfold b0 at h;split at h
 ·obtain⟨j,_,rfl⟩:=Option.map_eq_some_iff.mp h;exact⟨_,rfl⟩
 ·exact Jd (f:=λb=> !b) h
end
abbrev Ev:=SC->Expr->En->Res
def ji(T:GT)(ev:Ev):Prop:=∀X C B (E:XK) e,XOk X C T E->gj X B (ek (kx X) E) e (ev C e)
def Fj(T:GT)(tv:Ev):Prop:=∀X C B (E:XK) e,XOk X C T E->Fi X B (ek (kx X) E) e (tv C e)
section
variable{X:Cx}{B:Hp}{E:EK}{e a b:Expr}{es:List Expr}{g h:En->Res}{pos:Pos}
def l0:D->Bool
 |.non=>true
 |_=>false
def tj:D->D->Option D
 |d,.non=>some (.bl (l0 d))
 |.bl b,.bl c=>some (.bl (b==c))
 |.non,.bl _=>some (.bl false)
 |_,_=>none
noncomputable def fo:D->D->Option D
 |d,.non=>some (.bl (!l0 d))
 |.bl b,.bl c=>some (.bl (!(b==c)))
 |.non,.bl _=>some (.bl true)
 |_,_=>none
def Au{K:KA}{G H:Hp}{d:D}{v:V}(h:Arg K G H d v):decide (v=.non)=l0 d:=by
 rcases h with h|⟨ds,a,vs,rfl,rfl,_⟩|⟨t,kvs,a,rfl,rfl,_⟩
 ·cases d with
  |non=>cases (show v=.non from h);rfl
  |bl b=>cases (show v=.bl b from h);rfl
  |int b=>cases (show v=.int b from h);rfl
  |str b=>cases (show v=.str b from h);rfl
  |tup ds=>obtain⟨a,vs,rfl,_⟩:=h;rfl
  |lst ds=>obtain⟨a,vs,rfl,_⟩:=h;rfl
  |dct t kvs=>obtain⟨a,rfl,_⟩:=h;rfl
  |obj C fs=>obtain⟨a,vs,rfl,_⟩:=h;rfl
  |fn f=>cases (show v=.ref _ from h);rfl
 ·rfl
 ·rfl
def FU(f:Bool->Bool):R2:=λx y H Q=>(∃b c,x=.bl b/\y=.bl c/\Q (.bl (f (b==c))) H)\/∃c,x=.non/\y=.bl c/\Q (.bl (f false)) H
def KG:OpR X (cN .Is) (FU id):=by
 intro pins s U H x y v u Q I rx ry h;rcases h with ⟨b,c,rfl,rfl,q⟩|⟨c,rfl,rfl,q⟩
 ·cases rx;cases ry;exact wpAny_is_plain rfl ⟨.bl (b==c),H,I,(by cases b<;>cases c<;>rfl),q⟩
 ·cases rx;cases ry;exact wpAny_is_plain rfl ⟨.bl false,H,I,rfl,q⟩
def DP:OpR X (cN .IsNot) (FU λb=> !b):=by
 intro pins s U H x y v u Q I rx ry h;rcases h with ⟨b,c,rfl,rfl,q⟩|⟨c,rfl,rfl,q⟩
 ·cases rx;cases ry;exact wpAny_isNot_plain rfl ⟨.bl (!(b==c)),H,I,(by cases b<;>cases c<;>rfl),q⟩
 ·cases rx;cases ry;exact wpAny_isNot_plain rfl ⟨.bl true,H,I,rfl,q⟩
def Ye{K:KA}:ib K tj (λx y H Q=>(y=.non/\Q (.bl (decide (x=.non))) H)\/FU id x y H Q):=λG H x y dx dy d sg ax ay ed Q q=>by
 unfold tj at ed;split at ed
 ·cases ed;refine .inl ⟨ay.non,?_⟩;rw[Au ax];exact q _ G H (Ext.refl sg) rfl
 ·cases ed;exact .inr (.inl ⟨_,_,ax.bl,ay.bl,q _ G H (Ext.refl sg) rfl⟩)
 ·cases ed;exact .inr (.inr ⟨_,ax.non,ay.bl,q _ G H (Ext.refl sg) rfl⟩)
 ·cases ed
def Ma{K:KA}:ib K fo (λx y H Q=>(y=.non/\Q (.bl (!decide (x=.non))) H)\/FU (λb=> !b) x y H Q):=λG H x y dx dy d sg ax ay ed Q q=>by
 unfold fo at ed;split at ed
 ·cases ed;refine .inl ⟨ay.non,?_⟩;rw[Au ax];exact q _ G H (Ext.refl sg) rfl
 ·cases ed;exact .inr (.inl ⟨_,_,ax.bl,ay.bl,q _ G H (Ext.refl sg) rfl⟩)
 ·cases ed;exact .inr (.inr ⟨_,ax.non,ay.bl,q _ G H (Ext.refl sg) rfl⟩)
 ·cases ed
def Wn(hf:f=tj\/f=fo)(x y d:D)(h:f x y=some d):∃b,d=.bl b:=by
 rcases hf with rfl|rfl
 ·unfold tj at h;split at h<;>first|(cases h;exact⟨_,rfl⟩)|cases h
 ·unfold fo at h;split at h<;>first|(cases h;exact⟨_,rfl⟩)|cases h
noncomputable def Ie:CmpOp->Option (D->D->Option D)
 |.Eq=>some dj
 |.NotEq=>some fx
 |.Lt=>some Eh
 |.LtE=>some Ua
 |.Gt=>some Ef
 |.GtE=>some RJ
 |.In=>some ur
 |.NotIn=>some b0
 |.Is=>some tj
 |.IsNot=>some fo
def B6(hf:Ie op=some f)(hu:X.A.units+65<eD):∃r,OpR X (cN op) r/\ib (kx X) f r/\∀x y d,f x y=some d->∃b,d=.bl b:=by
 cases op<;>cases hf
 ·exact⟨_,KI (by lia),EX,λ_ _ _ h=>Jd (f:=id) h⟩
 ·exact⟨_,KB (by lia),EU,λ_ _ _ h=>Jd (f:=λb=> !b) h⟩
 ·exact⟨_,QB,yq,Ig⟩
 ·exact⟨_,QC,yq,Ig⟩
 ·exact⟨_,QD,yq,Ig⟩
 ·exact⟨_,QE,yq,Ig⟩
 ·exact⟨_,KF.or KG,Ye,Wn (.inl rfl)⟩
 ·exact⟨_,DO.or DP,Ma,Wn (.inr rfl)⟩
 ·exact⟨_,(KH hu).or (Xp (by lia)),Yd,JG⟩
 ·exact⟨_,(Tv hu).or (L5 (by lia)),Mb,Tq⟩
end
def mh(ev:Ev)(C:SC)(e:Expr):En->Res:=match e with
 | .Name x _ => (match slot C x with
  |some i=>ae i
  |none=>ev C e)
 |_=>ev C e
noncomputable def JJ(ev:Ev)(C:SC):List Bool->List Expr->En->ResL
 |[],[]=>ah
 |m::ms,e::es=>aa (if m then mh ev C e else ev C e) (JJ ev C ms es)
 |_,_=>JI
def vy(ev:Ev)(C:SC):List Expr->En->ResL
 |[]=>ah
 |e::es=>aa (ev C e) (vy ev C es)
noncomputable def E7(T:GT)(C:SC)(x:Str):En->Res:=match slot C x with
 |some i=>a6 i
 | none => if J5 C x then (match T.gstr x with
  |some y=>gC (.str y)
  | none => (match T.fns x with
   |some _=>gC (.fn x)
   |none=>jz))else jz
def K2(f:Expr->En->Res):List Expr->En->Res
 |[]=>jz
 |[a]=>f a
 |a::r=>ie (f a) (K2 f r)
def Wd(f:Expr->En->Res):List Expr->En->Res
 |[]=>jz
 |[a]=>f a
 |a::r=>vc (f a) (Wd f r)
noncomputable def y9(ev:Ev)(C:SC)(l:Expr)(ops:List CmpOp)(rs:List Expr):En->Res:=match ops,rs with
 | [op], [r] => (match Ie op with
  |some f=>if mi r then g2 f (mh ev C l) (mh ev C r)else jz
  |none=>jz)
 | [op, op'], [m, r] => (match Ie op, Ie op' with
  |some f,some f'=>if mi r then xa f f' (mh ev C l) (mh ev C m) (mh ev C r)else jz
  |_,_=>jz)
 |_,_=>jz
section
variable{T:GT}{ev tv:Ev}{X:Cx}{C:SC}{B:Hp}{E:XK}{pos:Pos}
def cq(h:ji T ev)(O:XOk X C T E)(e:Expr):jq X B (ek (kx X) E) e (mh ev C e):=by
 have d:jq X B (ek (kx X) E) e (ev C e):=RS (h X C B E e O);cases e with
 |Name x p=>
  show jq X B _ _ (match slot C x with
   |some i=>ae i
   |none=>ev C (.Name x p))
  cases es:slot C x with
  |none=>exact d
  |some i=>exact IB i (O.var es)
 |_=>exact d
theorem F3(h:ji T ev)(O:XOk X C T E):∀{ms:List Bool}{es:List Expr},es.all i3=true->Px X B (ek (kx X) E) ms es (JJ ev C ms es)
 |[],[],_=>ip
 |[],_::_,_=>HX
 |_::_,[],_=>HX
 |m::ms,e::es,hs=>by
  rw[cP,aO]at hs;cases m with
  |true=>exact fc (cq h O e) (F3 h O hs.2) (a5 hs.1)
  |false=>exact Cv (h X C B E e O) (F3 h O hs.2) (a5 hs.1)
theorem x9(h:ji T ev)(O:XOk X C T E):∀{es:List Expr},es.all i3=true->Px X B (ek (kx X) E) (es.map λ_=>false) es (vy ev C es)
 |[],_=>ip
 |e::es,hs=>by
  rw[cP,aO]at hs;exact Cv (h X C B E e O) (x9 h O hs.2) (a5 hs.1)
theorem xt:∀{es:List Expr},Hz (es.map λ_=>false)=true
 |[]=>rfl
 |_::es=>by
  show(!false && Hz (es.map λ_=>false))=true;rw[xt (es:=es)];rfl
def CB(O:XOk X C T E):gj X B (ek (kx X) E) (.Name x pos) (E7 T C x):=by
 unfold E7;cases es:slot C x with
 |some i=>exact ML i (O.var es)
 |none=>
  dsimp only
  by_cases hg:J5 C x=true
  ·rw[aJ hg];obtain⟨g1,g2⟩:=O.gl hg;cases e1:T.gstr x with
   |some y=>
    obtain⟨t,q⟩:=O.gstr x y e1;exact EI g1 q g2
   |none=>
    cases e2:T.fns x with
    |some s=>
     obtain⟨k,f,fd,ps,_,q,_⟩:=O.fns x s e2;exact MW g1 q g2
    |none=>exact cg
  ·rw[aK hg];exact cg
theorem Pz{E:EK}(h:∀e,gj X B E e (f e)):∀{vs:List Expr},gj X B E (.BoolOp .And vs pos) (K2 f vs)
 |[]=>cg
 |[a]=>Yp (h a)
 |a::b::r=>MZ (h a) (Pz h (vs:=b::r))
theorem Xq{E:EK}(h:∀e,gj X B E e (f e)):∀{vs:List Expr},gj X B E (.BoolOp .Or vs pos) (Wd f vs)
 |[]=>cg
 |[a]=>Yp (h a)
 |a::b::r=>RL (h a) (Xq h (vs:=b::r))
def IX{E:EK}{e:Expr}:AS X B E e jz:=λwh pins s U H Q I ⟨G,W,R,q⟩=>q.elim
theorem P0{E:EK}(h:∀e,Fi X B E e (f e)):∀{vs:List Expr},AS X B E (.BoolOp .And vs pos) (K2 f vs)
 |[]=>IX
 |[a]=>Yt (h a)
 |a::b::r=>EA (h a) (P0 h (vs:=b::r))
theorem Xr{E:EK}(h:∀e,Fi X B E e (f e)):∀{vs:List Expr},AS X B E (.BoolOp .Or vs pos) (Wd f vs)
 |[]=>IX
 |[a]=>FY (h a)
 |a::b::r=>MJ (h a) (Xr h (vs:=b::r))
def Vo(h:ji T ev)(O:XOk X C T E):gj X B (ek (kx X) E) (.Compare l ops rs pos) (y9 ev C l ops rs)/\Fi X B (ek (kx X) E) (.Compare l ops rs pos) (y9 ev C l ops rs):=by
 unfold y9;split
 ·rename_i op r;cases hf:Ie op with
  |none=>exact⟨cg,Bh⟩
  |some f=>
   dsimp only
   by_cases hs:mi r=true
   ·rw[aJ hs];obtain⟨rr,h1,h2,h3⟩:=B6 (X:=X) hf O.units;exact⟨MX h1 h2 (cq h O l) (cq h O r) (o8 hs),EO h1 h2 h3 (cq h O l) (cq h O r) (o8 hs)⟩
   ·rw[aK hs];exact⟨cg,Bh⟩
 ·rename_i op op' m r;cases hf:Ie op with
  |none=>exact⟨cg,Bh⟩
  |some f=>
   cases hf':Ie op' with
   |none=>exact⟨cg,Bh⟩
   |some f'=>
    dsimp only
    by_cases hs:mi r=true
    ·rw[aJ hs];obtain⟨rr,h1,h2,h3⟩:=B6 (X:=X) hf O.units;obtain⟨rr',h1',h2',h3'⟩:=B6 (X:=X) hf' O.units;exact⟨Ym h1 h2 h1' h2' (cq h O l) (cq h O m) (cq h O r) (D7 hs),T4 h1 h2 h1' h2' h3' (cq h O l) (cq h O m) (cq h O r) (D7 hs)⟩
    ·rw[aK hs];exact⟨cg,Bh⟩
 ·exact⟨cg,Bh⟩
end
section
variable{X:Cx}{pins:List (Addr×Obj)}{U:St}{G H:Hp}{s:aN}{B:Hp}{E:EK}{e a b:Expr}{g h:En->Res}{pos p:Pos}
def ml:List D->Option (List Bool)
 |[]=>some []
 |.bl b::r=>(ml r).map (b::·)
 |_::_=>none
theorem Az{K:KA}:∀{ds:List D}{bs:List Bool}{vs:List V}{us:List aH},ml ds=some bs->DenL K G ds vs->Vals vs us->us=bs.map lY
 |[],bs,vs,us,h,d,r=>by cases h;cases (show vs=[]from d);cases r;rfl
 |d::ds,bs,vs,us,h,dl,r=>by
  obtain⟨v,vr,rfl,dv,dr⟩:=dl;cases d with
  |bl b=>
   unfold ml at h;cases e:ml ds with
   |none=>rw[e]at h;cases h
   |some bs'=>
    rw[e]at h;cases h;cases r with
    |cons r1 rr=>
     cases (show v=.bl b from dv);cases (show _=lY b from r1);rw[aG,Az e dr rr]
  |_=>cases h
def Fk(bs:List Bool)(f:List Bool->(Nat->Bool))(hf:f=λbs i=>bs.getD i false):(bT bs.length).all (f bs)=bs.all id/\(bT bs.length).any (f bs)=bs.any id:=by
 subst hf;have e:(bT bs.length).map (λi=>bs.getD i false)=bs:=by
  apply List.ext_getElem
  ·simp
  ·intro i h1 h2;simp[cB,h2]
 constructor
 ·have:=congrArg (λl=>l.all id) e;simp only[List.all_map]at this;simpa[Function.comp_def]using this
 ·have:=congrArg (λl=>l.any id) e;simp only[List.any_map]at this;simpa[Function.comp_def]using this
def RI(K:KA)(an:Bool):List V->Hp->VK->Prop:=λxs H Q=>∃G l vs ds bs,xs=[.ref l]/\SqL K H l vs/\DenL K G ds vs/\ml ds=some bs/\Q (.bl (if an then bs.any id else bs.all id)) H
def Ki{bs:List Bool}{items:Array aH}(e:items.toList=bs.map lY):TruthOf prog w A (λi v=>items[i]?=some v) (λi=>bs.getD i false):=by
 intro i v s Q E hv hQ;have hv':items.toList[i]?=some v:=by simpa using hv
 rw[e,bN]at hv';cases eb:bs[i]? with
 |none=>rw[eb]at hv';cases hv'
 |some b=>
  rw[eb]at hv';cases hv';have hQ':Q (bs.getD i false) s:=hQ;rw[cB,eb]at hQ';exact dW hQ'
def Sd(hc:X.calm=true):CallR X (.builtin "all") (RI (kx X) false):=by
 intro pins s U H xs us Q I r q;obtain⟨G,l,vs,ds,bs,rfl,sq,dl,eb,q⟩:=q;obtain⟨u,rfl,ru⟩:=mj r;cases ru;obtain⟨its,rv,pl,_⟩:=I.list sq;have e:=Az eb dl rv;have hl:l<s.heap.objs.size:=by obtain⟨o,ho,_⟩:=pl.isList;exact aP ho
 have W:=Walks.list (prog:=X.prog) (w:=X.w) (A:=X.A.in1) (show X.A.in1.handled=none from I.ok.hd hc) s.heap.objs.size l (bH hl) its.toArray;refine call_all_walk (jO pl.isList ⟨s.heap.objs.size,_,_,_,_,_,λi=>bs.getD i false,rfl,W,⟨⟨_,aT _ rfl,rfl,rfl⟩,pl.isList.at λo ho=>aC _ ho⟩,Ki (by simpa using e),λh' tk hk=>?_⟩);refine⟨.bl _,H,I.kept λb o e=>hk b o (by simpa using bH (aP e)) (aC _ e),?_,q⟩;have hsz:its.toArray.size=bs.length:=by rw[bL,e,aF]
 rw[hsz,(Fk bs _ rfl).1];rfl
def Bi:D->Option D
 |.lst ds=>(ml ds).map λbs=>.bl (bs.all id)
 |_=>none
def LA(hc:X.calm=true)(hg:Gl X "all")(hm:X.mg "all"=none)(ha:jq X B E e g)(he:bF [e] X.env=(false,eval e X.env)::bF [] X.env):gj X B E (.Call (.Name "all" p) [e] [] pos) (g1 Bi g):=
 PE.imp (n9 (Sd hc) hg hm PyProof.Rows.boot_all (fc ha ip he) (by decide) (by decide) he rfl) λU H Q q=>JR (λG H x dx d sg ax ed Q q=>by
  cases dx with
  |lst ds=>
   unfold Bi at ed;dsimp only at ed;cases eb:ml ds with
   |none=>rw[eb]at ed;cases ed
   |some bs=>
    rw[eb]at ed;cases ed;obtain⟨l,vs,rfl,sq,dl⟩:=ax.lst sg;exact⟨G,l,vs,ds,bs,rfl,sq,dl,eb,q _ G H (Ext.refl sg) rfl⟩
  |_=>cases ed) q
end
def Y8(x:Str):List D:=x.cps.toList.map λc=>.str ⟨#[c]⟩
def UV(x:Str):It:=⟨λi _=>i<x.cps.size,λi H v H'=>H'=H/\∃c,x.cps[i]?=some c/\v=.str ⟨#[c]⟩,λi _=>x.cps.size<=i⟩
def Po{P:bQ}{w:cF}{K:bA}{tg:Expr}(it:Addr)(x:Str)(t:Tok):Turn P w K tg (UV x) [it] it (λi h=>h.IsStrIter it "str_ascii_iterator" x t i) where
 mem:=by simp
 obj:=λi h st b hb=>by
  have e:b=it:=by simpa using hb
  subst e;obtain⟨o,e,c,d⟩:=st;exact⟨o,e,λv z=>by rw[d]at z;cases z⟩
 keep:=λi h h' st k=>let ⟨o,ho,r⟩:=st;⟨o,k it (by simp) o ho,r⟩
 item:=by
  intro X hP hw hK hc i pins s U H E I hf st hg;subst hP hw hK;obtain⟨f0,f1,f2,f3,f4,f5⟩:=hf it (by simp);have hg':i<x.cps.size:=hg;refine wpAny_pyNext_ascii_item st (c:=x.cps[i]) (by simp[hg']) λh' st' sb=>?_;have I1:Inv X pins U H {s with heap:=h',toks:=s.toks+1}:=I.turned (t':=s.toks+1) (λb o hb e=>(sb.2 b hb).trans e) f0 f1 f3 f4 f5;obtain⟨o,e,c,d⟩:=id st';exact⟨_,rfl,K5 (s:={s with heap:=h',toks:=s.toks+1}) e c d (by decide) ⟨.str ⟨#[x.cps[i]]⟩,H,I1,⟨_,rfl⟩,⟨rfl,_,by simp[hg'],rfl⟩,st',λb hb=>(hf b hb).1⟩⟩
 done:=by
  intro X hP hw hK hc i pins s U H E I hf st hg;subst hP hw hK;obtain⟨f0,f1,f2,f3,f4,f5⟩:=hf it (by simp);have hg':x.cps.size<=i:=hg;exact wpAny_pyNext_ascii_end (I.ok.hd hc) st (by simp[hg']) λh' eb=>⟨rfl,I.turned (t':=s.toks) (λb o hb e=>eb b o hb e) f0 f1 f3 f4 f5⟩
 self:=λ_ _ _ _ _ st h=>wpAny_pyIter_striter_ascii st h
def Ur{P:bQ}{w:cF}{K:bA}{tg:Expr}(it:Addr)(x:Str)(t:Tok):Turn P w K tg (UV x) [it] it (λi h=>h.IsStrIter it "str_iterator" x t i) where
 mem:=by simp
 obj:=λi h st b hb=>by
  have e:b=it:=by simpa using hb
  subst e;obtain⟨o,e,c,d⟩:=st;exact⟨o,e,λv z=>by rw[d]at z;cases z⟩
 keep:=λi h h' st k=>let ⟨o,ho,r⟩:=st;⟨o,k it (by simp) o ho,r⟩
 item:=by
  intro X hP hw hK hc i pins s U H E I hf st hg;subst hP hw hK;obtain⟨f0,f1,f2,f3,f4,f5⟩:=hf it (by simp);have hg':i<x.cps.size:=hg;refine wpAny_pyNext_wide_item st (c:=x.cps[i]) (by simp[hg']) λh' st' sb=>?_;have I1:Inv X pins U H {s with heap:=h',toks:=s.toks+1}:=I.turned (t':=s.toks+1) (λb o hb e=>(sb.2 b hb).trans e) f0 f1 f3 f4 f5;obtain⟨o,e,c,d⟩:=id st';exact⟨_,rfl,K5 (s:={s with heap:=h',toks:=s.toks+1}) e c d (by decide) ⟨.str ⟨#[x.cps[i]]⟩,H,I1,⟨_,rfl⟩,⟨rfl,_,by simp[hg'],rfl⟩,st',λb hb=>(hf b hb).1⟩⟩
 done:=by
  intro X hP hw hK hc i pins s U H E I hf st hg;subst hP hw hK;obtain⟨f0,f1,f2,f3,f4,f5⟩:=hf it (by simp);have hg':x.cps.size<=i:=hg;exact wpAny_pyNext_wide_end (I.ok.hd hc) st (by simp[hg']) λh' eb=>⟨rfl,I.turned (t':=s.toks) (λb o hb e=>eb b o hb e) f0 f1 f3 f4 f5⟩
 self:=λ_ _ _ _ _ st h=>wpAny_pyIter_striter_wide st h
def Ws{K:KA}{x:Str}{S:Hp->Hp->Prop}:zi K (UV x) (Y8 x) S:=λi G H hS sg=>by
 unfold Y8;refine⟨λd ed=>?_,λhl=>?_⟩
 ·rw[bN]at ed;cases e:x.cps.toList[i]? with
  |none=>rw[e]at ed;cases ed
  |some c=>
   rw[e]at ed;cases ed;have hi:i<x.cps.size:=by simpa using(List.getElem?_eq_some_iff.mp e).1
   refine⟨hi,λv H' ⟨z,c',ec,ev⟩=>?_⟩;subst z;have:x.cps.toList[i]?=some c':=by simpa using ec
   rw[e]at this;cases this;exact⟨G,Ext.refl sg,ev⟩
 ·rw[aF]at hl;show x.cps.size<=i;simpa using hl
section
variable{X:Cx}{G0 B:Hp}{E:EK}{e a b c tg iter:Expr}{g h:En->Res}{pos p:Pos}
def QP(K:bA)(tl:TE):TI:=λU H R=>tl U H λx H1=>(∃a,x=.ref a/\(((∃xs,SqL K H1 a xs)/\R (WV K a) H1)\/((∃xs,SqT K H1 a xs)/\R (WU K a) H1)))\/∃z,x=.str z/\R (UV z) H1
def Rj{l:Expr}{tl:TE}(hl:PE X l tl):PI X tg l (QP X.K tl):=by
 intro pins s U H R I h;refine jh (hl pins s U H _ I h) λv s1 ⟨x,H1,I1,r1,q1⟩=>?_;rcases q1 with ⟨a,e,⟨⟨xs,hq⟩,q⟩|⟨⟨xs,hq⟩,q⟩⟩|⟨z,e,q⟩
 ·subst e;cases r1;obtain⟨its,rv,p,hz⟩:=I1.list hq;refine jO p.isList ?_;refine⟨s1.heap.objs.size,[s1.heap.objs.size],_,_,H1,rfl,I1.kept (t':=s1.toks) λb o e=>aC _ e,Uq a _,⟨_,aT _ rfl,rfl,rfl⟩,λb hb=>?_,q⟩;have e:b=s1.heap.objs.size:=by simpa using hb
  subst e;exact I1.fpOk (aR _) (I1.hok.fresh (aR _))
 ·subst e;cases r1;obtain⟨its,rv,p,hz⟩:=I1.tuple hq;refine wpAny_pyIter_tuple (show s1.heap.IsTuple a its.toArray from p) ?_;refine⟨s1.heap.objs.size,[s1.heap.objs.size],_,_,H1,rfl,I1.kept (t':=s1.toks) λb o e=>aC _ e,Pr a _,⟨_,aT _ rfl,rfl,rfl⟩,λb hb=>?_,q⟩;have e:b=s1.heap.objs.size:=by simpa using hb
  subst e;exact I1.fpOk (aR _) (I1.hok.fresh (aR _))
 ·subst e;obtain⟨t,rfl⟩:=r1;cases ha:z.cps.all (· <128)
  ·refine wpAny_pyIter_wide ha ⟨s1.heap.objs.size,[s1.heap.objs.size],_,_,H1,rfl,I1.kept (t':=s1.toks) λb o e=>aC _ e,Ur _ z t,⟨_,aT _ rfl,rfl,rfl⟩,λb hb=>?_,q⟩;have e:b=s1.heap.objs.size:=by simpa using hb
   subst e;exact I1.fpOk (aR _) (I1.hok.fresh (aR _))
  ·refine wpAny_pyIter_ascii ha ⟨s1.heap.objs.size,[s1.heap.objs.size],_,_,H1,rfl,I1.kept (t':=s1.toks) λb o e=>aC _ e,Po _ z t,⟨_,aT _ rfl,rfl,rfl⟩,λb hb=>?_,q⟩;have e:b=s1.heap.objs.size:=by simpa using hb
   subst e;exact I1.fpOk (aR _) (I1.hok.fresh (aR _))
def Hs:D->Option (List D)
 |.lst ds=>some ds
 |.tup ds=>some ds
 |.str x=>some (Y8 x)
 |_=>none
noncomputable def a7(g:En->Res):En->ResL:=λW=>match g W with
 | .ok d => (match Hs d with
  |some ds=>.ok ds
  |none=>.st)
 |.er c=>.er c
 |.st=>.st
def IK(q:ResLP E G H (a7 g W) P):ResP E G H (g W) λd=>∃ds,Hs d=some ds/\P ds:=by
 unfold a7 at q;cases e:g W with
 |ok d=>
  rw[e]at q;dsimp only at q;cases e2:Hs d with
  |some ds=>rw[e2]at q;exact⟨ds,e2,q⟩
  |none=>rw[e2]at q;exact q.elim
 |er c=>rw[e]at q;exact q
 |st=>rw[e]at q;exact q
def X7(h:IJ X B E e g):HZ X B E tg e (a7 g):=PI.imp (Rj h) λU H R ⟨G,W,Rr,q⟩=>⟨G,W,Rr,(IK q).mono λd _ ⟨ds,ed,q⟩ v G1 H1 e1 ax=>by
 have bh:Same B H1:=Rr.bh.trans e1.hh;cases d with
 |lst ds'=>
  cases ed;rcases ax with ⟨a,vs,rfl,s,dl⟩|⟨ds2,a,vs,z,rfl,s,dl⟩|⟨t,kvs,a,z,_⟩
  ·exact .inl ⟨a,rfl,.inl ⟨⟨vs,SqL.mono e1.gh s⟩,q _ G1 H1 e1 (N8 (λG2 H2 ⟨x1,x2⟩ sg=>⟨SqL.mono (x1.trans sg) s,x1⟩) dl)⟩⟩
  ·cases z;exact .inl ⟨a,rfl,.inl ⟨⟨vs,SqL.mono bh s⟩,q _ G1 H1 e1 (N8 (λG2 H2 ⟨x1,x2⟩ sg=>⟨SqL.mono x2 s,x1⟩) dl)⟩⟩
  ·cases z
 |tup ds'=>
  cases ed;rcases ax with ⟨a,vs,rfl,s,dl⟩|⟨ds2,a,vs,z,rfl,s,dl⟩|⟨t,kvs,a,z,_⟩
  ·exact .inl ⟨a,rfl,.inr ⟨⟨vs,SqT.of (e1.gh _ _ s)⟩,q _ G1 H1 e1 (Wt (λG2 H2 ⟨x1,x2⟩ sg=>⟨SqT.of ((x1.trans sg) _ _ s),x1⟩) dl)⟩⟩
  ·cases z
  ·cases z
 |str z=>cases ed;exact .inr ⟨z,ax.str,q _ G1 H1 e1 Ws⟩
 |non=>cases ed
 |bl _=>cases ed
 |int _=>cases ed
 |dct _ _=>cases ed
 |obj _ _=>cases ed
 |fn _=>cases ed⟩
def Rk(h:jq X B E e g):R9 X B E tg e (a7 g):=PI.imp (Rj h) λU H R ⟨G,W,Rr,q⟩=>⟨G,W,Rr,(IK q).mono λd _ ⟨ds,ed,q⟩ v G1 H1 e1 ax=>by
 cases d with
 |lst ds'=>
  cases ed;obtain⟨a,vs,rfl,s,dl⟩:=ax.lst e1.gh;exact .inl ⟨a,rfl,.inl ⟨⟨vs,s⟩,q _ G1 H1 e1 (N8 (λG2 H2 x sg=>⟨SqL.mono x.hh s,x.gg⟩) dl)⟩⟩
 |tup ds'=>
  cases ed;obtain⟨a,vs,rfl,s,dl⟩:=ax.tup e1.gh;exact .inl ⟨a,rfl,.inr ⟨⟨vs,s⟩,q _ G1 H1 e1 (Wt (λG2 H2 x sg=>⟨SqT.mono x.hh s,x.gg⟩) dl)⟩⟩
 |str z=>cases ed;exact .inr ⟨z,ax.str,q _ G1 H1 e1 Ws⟩
 |non=>cases ed
 |bl _=>cases ed
 |int _=>cases ed
 |dct _ _=>cases ed
 |obj _ _=>cases ed
 |fn _=>cases ed⟩
def V8(ps:List jC)(q:jC):Option Nat:=ps.findIdx? λy=>bZ y q
noncomputable def jd:D->D->Option D
 | .lst xs, d => (match fb xs, fq d with
  |some ps,some q=>if bC ps && cU q && decide (xs.length<=aM)then(V8 ps q).map λj=>.int (j:Nat)else none
  |_,_=>none)
 |_,_=>none
def YJ(K:KA)(f:D->D->Option D):V->List V->Hp->VK->Prop:=λx vs H Q=>∃G dx dy y d,Same G H/\Arg K G H dx x/\vs=[y]/\Arg K G H dy y/\f dx dy=some d/\∀v,Den K G d v->Q v H
def Tp(hu:X.A.units+65<eD):WQ X "list.index" (YJ (kx X) jd):=by
 intro pins s U H x vs v us Q I rx rv q;obtain⟨G,dx,dy,y,d,sg,ax,rfl,ay,ed,q⟩:=q;obtain⟨u,rfl,ru⟩:=rv.one;cases dx with
 |lst xs=>
  unfold jd at ed;dsimp only at ed;cases e1:fb xs with
  |none=>rw[e1]at ed;cases ed
  |some ps=>
   cases e2:fq dy with
   |none=>rw[e1,e2]at ed;cases ed
   |some q'=>
    rw[e1,e2]at ed;dsimp only at ed
    by_cases hs:(bC ps && cU q' && decide (xs.length<=aM))=true
    ·rw[aJ hs]at ed;simp only[aO,decide_eq_true_eq]at hs;obtain⟨⟨h1,h2⟩,h3⟩:=hs;cases ej:V8 ps q' with
     |none=>rw[ej]at ed;cases ed
     |some j=>
      rw[ej]at ed;cases ed;obtain⟨as,ra⟩:=d5 (p:=.list ps) I sg ax rx (by unfold fq;rw[e1]);obtain⟨bs,rb⟩:=d5 I sg ay ru e2;cases ra with
      |@list l o items n _ _ g1 g2 g3 g4=>
       obtain⟨cls,dd,data,sl⟩:=o;simp only at g2 g3;subst g2 g3;have hm:=SeqAt.readsAll_map ps _ _ h1 g4;have hlen:items.size=ps.length:=by rw[<-hm,aF];simp
       unfold V8 at ej;obtain⟨w1,w2,w3⟩:=List.findIdx?_eq_some_iff_getElem.mp ej;have at_:∀(k:Nat)(hk:k<items.size),bZ (mU s.heap items[k]) q'=bZ (ps[k]'(by lia)) q':=λk hk=>by
        congr 1
        have:(items.toList.map (mU s.heap))[k]?=ps[k]?:=by rw[hm]
        rw[bN,bP (by simpa using hk),bP (by lia)]at this;simpa using this
       have hz:ps.length<=aM:=by
        have:xs.length=ps.length:=by
         obtain⟨l',vs',rfl,sq,dl⟩:=ax.lst sg;cases rx;obtain⟨its,rv',pl,_⟩:=I.list sq;obtain⟨o',ho',hc',n',hd'⟩:=pl.isList;rw[g1]at ho';cases ho';cases hd';rw[dl.length,rv'.length,<-hlen];simp
        lia
       have hbig:(aM:Int)<2 ^ 63 - 1:=by decide
       refine call_meets PySem.F.slot_list_index ⟨_,g1,rfl⟩ PySem.F.entry_list_index (PySem.F.args_list_index_2 _ _)
        (PySem.SeqAt.list_indexAt l items n dd sl u (λy=>bZ (mU s.heap y) q') j (by lia) (by lia) ?_ ?_) ⟨g1,λy hy=>SeqAt.items_eqAt g4 rb h1 (gG h2) (lN h2 hu) y hy,?_⟩
       ·show bZ (mU s.heap items[j]) q'=true;rw[at_ j (by lia)];exact w2
       ·intro k hk hlt;show bZ (mU s.heap items[k]) q'=false;rw[at_ k hk];have:=w3 k hlt;simpa using this
       ·exact⟨.int j,H,I.tok _,⟨_,rfl⟩,q _ rfl⟩
    ·rw[aK hs]at ed;cases ed
 |_=>cases ed
end
section
variable{X:Cx}{G0 B:Hp}{E:EK}{e a b c tg iter:Expr}{g h:En->Res}{pos p:Pos}
def gM(f:D->D->Option D)(g h:En->Res):En->Res:=λW=>(g W).bind λx=>match x with
 |.lst xs=>(h W).bind λy=>Res.of (f (.lst xs) y)
 |_=>.st
def RM{f:D->D->Option D}{m:Str}{id:String}{ap cp:Pos}(slot:Slot "list" m id)(hty:typeOf (.builtin id)=pure (.type "method_descriptor"))(hm:WQ X id (YJ (kx X) f))(ho:jq X B E a g)(he:jq X B E e h)
  (hb:jJ a m X.env (eval a X.env)=eval a X.env)(hn:i3 e=true)(hl:(ap.endLine==cp.line)=true):gj X B E (.Call (.Attribute a m ap) [e] [] cp) (gM f g h):=
 PE.imp (Xz lE slot hty hm ho (fc he ip (a5 hn)) hb (by rw[uw (by rw[cP,hn];rfl)];rfl) hl (a5 hn) rfl) λU H Q ⟨G,W,R,q⟩=>⟨G,W,R,(ResP.bind q).mono λdx _ qx x G1 H1 e1 ax=>by
  cases dx with
  |lst xs=>
   have ax':=ax;obtain⟨l,vs,rfl,sq,dl⟩:=ax.lst e1.gh;refine⟨.inl ⟨rfl,vs,sq⟩,G1,W,R.ext e1,?_⟩;have qx:ResP E G1 H1 ((h W).bind λy=>Res.of (f (.lst xs) y)) _:=ResP.ext e1 qx;unfold aa;cases eh:h W with
   |ok dy=>
    rw[eh]at qx;obtain⟨d,ed,qd⟩:=ResP.of (show ResP E G1 H1 (Res.of (f (.lst xs) dy)) _ from qx);intro ws G2 H2 e2 al;obtain⟨y,rfl,ay⟩:=ArgsM.one al;exact⟨G2,.lst xs,dy,y,d,e2.gh,ax'.ext e2,rfl,ay,ed,λv dn=>qd v G2 H2 (e1.trans e2) dn⟩
   |er c=>rw[eh]at qx;exact qx
   |st=>rw[eh]at qx;exact qx
  |_=>exact qx.elim⟩
def Yo{ap cp:Pos}(hu:X.A.units+65<eD)(ho:jq X B E a g)(he:jq X B E e h)(hb:Aj a=true)(hn:i3 e=true)(hl:(ap.endLine==cp.line)=true):gj X B E (.Call (.Attribute a "index" ap) [e] [] cp) (gM jd g h):=
 RM PySem.F.slot_list_index PySem.F.type_list_index (Tp hu) ho he (Be hb) hn hl
noncomputable def jm:D->D->Option D
 |.int i,.int j=>if(-(2 ^ 64)<i/\i<2 ^ 64)\/(-(2 ^ 64)<j/\j<2 ^ 64)then some (.int (i * j))else none
 |.str x,.int n=>if x.length * n.toNat<=aM/\-(2 ^ 20)<=n/\n<2 ^ 20 then some (.str (Txt.mul x n))else none
 |_,_=>none
def QI{x:Str}{n:Int}(h:x.length * n.toNat<=aM/\-(2 ^ 20)<=n/\n<2 ^ 20):MulOk x n:=by
 obtain⟨h1,h2,h3⟩:=h;refine⟨?_,λa b=>?_,λa b=>?_⟩
 ·simp only[Bool.or_eq_false_iff,decide_eq_false_iff_not]
  lia
 ·intro hc;have hx:x.length<=aM:=by
   have:1<=n.toNat:=by lia
   exact cM (Nat.le_mul_of_pos_right _ this) h1
  have hs:(aM:Int)=2 ^ 24:=rfl;have h4:(2 ^ 63 - 1:Int) / n>=2 ^ 43 - 1:=by
   rw[ge_iff_le,Int.le_ediv_iff_mul_le (by lia)];have:(2 ^ 43 - 1:Int) * n<=(2 ^ 43 - 1) * 2 ^ 20:=Int.mul_le_mul_of_nonneg_left (by lia) (by decide)
   lia
  lia
 ·unfold Builtin.Str.tooLong;simp only[gt_iff_lt,decide_eq_false_iff_not,Nat.not_lt];exact h1
def RB(K:KA):R2:=λx y H Q=>∃G dx dy d,Same G H/\Arg K G H dx x/\Arg K G H dy y/\jm dx dy=some d/\∀v G' H',Ext G H G' H'->Den K G' d v->Q v H'
def DQ:OpR X (iO .Mult) (RB (kx X)):=by
 intro pins s U H x y v u Q I rx ry q;obtain⟨G,dx,dy,d,sg,ax,ay,ed,q⟩:=q;unfold jm at ed;split at ed
 ·split at ed
  ·rename_i hc;cases ed;rw[ax.int]at rx;rw[ay.int]at ry;exact KC pins s U H _ _ _ _ Q I rx ry ⟨_,_,rfl,rfl,hc,q _ G H (Ext.refl sg) rfl⟩
  ·cases ed
 ·split at ed
  ·rename_i hc;cases ed;rw[ax.str]at rx;rw[ay.int]at ry;obtain⟨t,rfl⟩:=rx;obtain⟨t',rfl⟩:=ry;exact SB.mul (QI hc) λt'' k=>⟨.str _,H,I.tok _,⟨_,rfl⟩,q _ G H (Ext.refl sg) rfl⟩
  ·cases ed
 ·cases ed
def MR(ha:jq X B E a g)(hb:jq X B E b h):gj X B E (.BinOp a .Mult b pos) (g2 jm g h):=Mc DQ (λG H x y dx dy d sg ax ay ed Q q=>⟨G,dx,dy,d,sg,ax,ay,ed,q⟩) ha hb
theorem Mz:∀{xs:List V}{us:List aH},xs.length=us.length->(∀(i:Nat) x u,xs[i]?=some x->us[i]?=some u->RelV x u)->Vals xs us
 |[],[],_,_=>.nil
 |[],_::_,h,_=>by simp at h
 |_::_,[],h,_=>by simp at h
 |x::xs,u::us,h,f=>.cons (f 0 x u rfl rfl) (Mz (by simpa using h) λi y v e1 e2=>f (i+1) y v (by simpa using e1) (by simpa using e2))
end
inductive ResE where
 |ok (d:D) (W:En)
 |er (c:Str)
 |st
def Cq(K:KA)(G0 B:Hp)(E:EK)(G:Hp)(U:St)(r:ResE)(P:D->Hp->Hp->En->Prop):Prop:=match r with
 |.ok d δ'=>∀G' H',Same G G'->EnvR K B G' H' U δ'->Ext G0 B G' H'->P d G' H' δ'
 |.er c=>∀G' H',Ext G0 B G' H'->E c H'
 |.st=>False
def YH(K:KA)(G0 B:Hp)(E:EK)(g:En->ResE):TE:=λU H Q=>∃G W,EnvR K B G H U W/\Ext G0 B G H/\Cq K G0 B E G U (g W) λd G' H' _=>∀v,Den K G' d v->Q v H'
def ZN(K:KA)(G0 B:Hp)(E:EK)(g:En->ResE):TT:=λU H Q=>∃G W,EnvR K B G H U W/\Ext G0 B G H/\Cq K G0 B E G U (g W) λd G' H' _=>∃b,d=.bl b/\Q b H'
abbrev AU(X:Cx)(G0 B:Hp)(E:EK)(e:Expr)(g:En->ResE):Prop:=PE X e (YH (kx X) G0 B E g)
abbrev WX(X:Cx)(G0 B:Hp)(E:EK)(e:Expr)(g:En->ResE):Prop:=PT X e (ZN (kx X) G0 B E g)
def Res.ef(r:Res)(W:En):ResE:=match r with
 |.ok d=>.ok d W
 |.er c=>.er c
 |.st=>.st
def Dm(g:En->Res):En->ResE:=λW=>(g W).ef W
section
variable{X:Cx}{G0 B:Hp}{E:EK}{e a b c tg iter:Expr}{g h k:En->Res}{f:En->ResE}{pos p:Pos}{ss tt:List Stmt}{F1 F2:En->Out}
def YO{K:KA}{G H:Hp}{U:St}{W:En}{r:Res}{P:D->Hp->Hp->En->Prop}(R:EnvR K B G H U W)(x:Ext G0 B G H)(q:Cq K G0 B E G U (r.ef W) P):ResP E G H r λd=>∀G' H',Ext G H G' H'->P d G' H' W:=by
 cases r with
 |ok d=>exact λG' H' e=>q G' H' e.gg (R.ext e) (x.trans e)
 |er c=>exact λG' H' e=>q G' H' (x.trans e)
 |st=>exact q
def Qg(h:gj X B E e g):AU X G0 B E e (Dm g):=PE.imp h λU H Q ⟨G,W,R,x,q⟩=>⟨G,W,R,(YO R x q).mono λd _ q v G' H' e dn=>q G' H' e v dn⟩
def B0(c:En->Res)(f1 f2:En->ResE):En->ResE:=λW=>match c W with
 |.ok (.bl true)=>f1 W
 |.ok (.bl false)=>f2 W
 |.ok _=>.st
 |.er c=>.er c
 |.st=>.st
def Vz(hc:Fi X B E c g)(h1:AU X G0 B E a f1)(h2:AU X G0 B E b f2):AU X G0 B E (.IfExp c a b pos) (B0 g f1 f2):=
 PE.imp (L9 hc h1 h2) λU H Q ⟨G,W,R,x,q⟩=>⟨G,W,R,by
  unfold B0 at q;cases eg:g W with
  |er c=>rw[eg]at q;exact λG' H' e=>q G' H' (x.trans e)
  |st=>rw[eg]at q;exact q
  |ok d=>
   rw[eg]at q;cases d with
   |bl t=>
    cases t with
    |true=>
     refine⟨true,rfl,λG1 H1 e1=>⟨G1,W,R.ext e1,x.trans e1,?_⟩⟩;dsimp only at q;cases ef:f1 W with
     |ok d δ'=>rw[ef]at q;exact λG' H' s=>q G' H' (e1.gg.trans s)
     |er c=>rw[ef]at q;exact q
     |st=>rw[ef]at q;exact q
    |false=>
     refine⟨false,rfl,λG1 H1 e1=>⟨G1,W,R.ext e1,x.trans e1,?_⟩⟩;dsimp only at q;cases ef:f2 W with
     |ok d δ'=>rw[ef]at q;exact λG' H' s=>q G' H' (e1.gg.trans s)
     |er c=>rw[ef]at q;exact q
     |st=>rw[ef]at q;exact q
   |_=>exact q.elim⟩
def A9(p:D->D->Option D)(f:En->ResE)(h:En->Res):En->ResE:=λW=>match f W with
 |.ok x δ'=>((h δ').bind λy=>Res.of (p x y)).ef δ'
 |.er c=>.er c
 |.st=>.st
def JK{op:CmpOp}{f2:D->D->Option D}{r:R2}(ho:OpR X (cN op) r)(hp:ib (kx X) f2 r)(hb':∀x y d,f2 x y=some d->∃b,d=.bl b)(ha:AU X G0 B E a f)(hb:jq X B E b h)(hm:kR op b=false):WX X G0 B E (.Compare a [op] [b] pos) (A9 f2 f h):=
 PT.imp (Ro ho ha hb hm) λU H Q ⟨G,W,R,x,q⟩=>⟨G,W,R,x,by
  unfold A9 at q;cases ef:f W with
  |er c=>rw[ef]at q;exact q
  |st=>rw[ef]at q;exact q
  |ok dx δ'=>
   rw[ef]at q;intro G1 H1 s1 R1 x1 v dn;have q1:Cq (kx X) G0 B E G1 U (((h δ').bind λy=>Res.of (f2 dx y)).ef δ') λd G' H' _=>∃b,d=.bl b/\Q b H':=by
    dsimp only at q;cases eh:(h δ').bind λy=>Res.of (f2 dx y)with
    |ok d=>rw[eh]at q;exact λG' H' s=>q G' H' (s1.trans s)
    |er c=>rw[eh]at q;exact q
    |st=>rw[eh]at q;exact q
   have q2:=YO R1 x1 q1;refine⟨G1,δ',R1,(ResP.bind q2).mono λdy _ qy y G2 H2 e2 ay=>?_⟩;obtain⟨d,ed,qd⟩:=ResP.of qy;obtain⟨b,rfl⟩:=hb' _ _ _ ed;refine hp G2 H2 v y dx dy (.bl b) e2.gh (Arg.ext e2 (.inl dn)) ay ed _ λw G3 H3 e3 dw=>?_;obtain⟨b',eb,qb⟩:=qd G3 H3 (e2.trans e3);cases eb;exact⟨b,dw,qb⟩⟩
def Jp(f:En->ResE)(F1 F2:En->Out):En->Out:=λW=>match f W with
 |.ok (.bl true) δ'=>F1 δ'
 |.ok (.bl false) δ'=>F2 δ'
 |.ok _ _=>.st
 |.er c=>.er c
 |.st=>.st
def SV(hc:WX X G0 B E c f)(ha:zm X G0 B E ss F1)(hb:zm X G0 B E tt F2):tq X G0 B E (.If c ss tt pos) (Jp f F1 F2):=
 PS.imp (IY hc ha hb) λD U H ⟨G,W,R,x,q⟩=>⟨G,W,R,x,by
  unfold Jp at q;cases ef:f W with
  |er c=>rw[ef]at q;exact q
  |st=>rw[ef]at q;exact q
  |ok d δ'=>
   rw[ef]at q;intro G1 H1 s1 R1 x1;cases d with
   |bl t=>
    refine⟨t,rfl,?_⟩;cases t with
    |true=>exact⟨G1,δ',R1,x1,OutP.same s1 q⟩
    |false=>exact⟨G1,δ',R1,x1,OutP.same s1 q⟩
   |_=>exact q.elim⟩
def uu(i:Nat)(f:En->ResE):En->Out:=λW=>match f W with
 |.ok d δ'=>.nx (δ'.set i (.pu d))
 |.er c=>.er c
 |.st=>.st
def NW(hs:PS X (.Assign [.Name x pos'] e pos) (Mu (YH (kx X) G0 B E f) (ti i))):tq X G0 B E (.Assign [.Name x pos'] e pos) (uu i f):=
 PS.imp hs λD U H ⟨G,W,R,x,q⟩=>⟨G,W,R,x,by
  unfold uu at q;cases ef:f W with
  |er c=>rw[ef]at q;exact q
  |st=>rw[ef]at q;exact q
  |ok d δ'=>
   rw[ef]at q;intro G1 H1 s1 R1 x1 v dn;exact q _ G1 H1 s1 (R1.set dn) x1⟩
def Jo(f:En->ResE):En->Out:=λW=>match f W with
 |.ok _ δ'=>.nx δ'
 |.er c=>.er c
 |.st=>.st
def FO(h:AU X G0 B E e f)(hs:gO e none pos.line X.env=pure false):tq X G0 B E (.Expr e pos) (Jo f):=
 PS.imp (Ck h hs) λD U H ⟨G,W,R,x,q⟩=>⟨G,W,R,x,by
  unfold Jo at q;cases ef:f W with
  |er c=>rw[ef]at q;exact q
  |st=>rw[ef]at q;exact q
  |ok d δ'=>
   rw[ef]at q;intro G1 H1 s1 R1 x1 v dn;exact q U G1 H1 s1 R1 x1⟩
def Vr{pins:List (Addr×Obj)}{U:St}{H:Hp}{s:aN}{a:Addr}{kvs:List (gi×V)}{k:gi}{v:V}{u r:aH}{A:cS}{E:aH->aN->Prop}{Q:aH->aN->Prop}(I:Inv X pins U H s)(e:H a=some (.dK kvs))(hl:kvs.length<aM)(ry:RelV (kV k) u)(rv:RelV v r)
  (h1:∀v' w s',me kvs k=some v'->RelV v' w->Inv X pins U H s'->Q w s')(h2:∀s',me kvs k=none->Inv X pins U (upd H a (.dK (ou kvs k v))) s'->Q r s'):
  aQ (bI X.prog X.w) A (call (.builtin "dict.setdefault") [.ref a,u,r]) Q E s:=by
 obtain⟨z,hd,vs,rel,dd⟩:=Qe I.hok e;refine call_meetsIn mO dd.typeIs PySem.F.entry_dict_setdefault (PySem.F.args_dict_setdefault_3 _ _ _) (kt_meets_setdefault (bb X.prog X.w) a (yh ry) hd r)
  ⟨vs,dd,by rw[<-rel.length];exact z,λw hw=>?_,λhn h' dd' hs=>?_⟩
 ·have:=rel.val k;rw[hw]at this;cases ev:me kvs k with
  |none=>rw[ev]at this;cases this
  |some v'=>rw[ev]at this;exact h1 v' w _ ev this (I.tok _)
 ·have hv:=rel.val k;rw[hn]at hv;have ev:me kvs k=none:=by
   cases ev:me kvs k with
   |none=>rfl
   |some v'=>rw[ev]at hv;cases hv
  refine h2 _ ev ?_;have he:∃q,h'.get? a=some q:=let ⟨q,_,_,hq,_⟩:=dd';⟨q,hq⟩;have hz:(ou kvs k v).length<=aM:=by have:=o5 kvs k v;lia
  exact Ij I (by rw[e];exact jA) hs he (Vw hz hd (rel.put k rv) dd')
end
section
variable{X:Cx}{G0 B:Hp}{E:EK}{e a b c tg iter:Expr}{g h k:En->Res}{f:En->ResE}{pos p:Pos}
noncomputable def iw(i:Nat)(gk gv:En->Res):En->ResE:=λW=>match W[i]? with
 | some (.od false kvs) => (match gk W with
  | .ok dk => (match gv W with
   | .ok dv => (match bz dk with
    | some j => if kvs.length < aM then (match bg kvs j with
     |some d=>.ok d W
     |none=>.ok dv (W.set i (.od false (pv kvs j dv))))else .st
    |none=>.st)
   |.er c=>.er c
   |.st=>.st)
  |.er c=>.er c
  |.st=>.st)
 |_=>.st
def T7{K:KA}{G:Hp}{kvs:List (D×D)}{es:List (gi×V)}(dl:DenK K G kvs es){j:gi}(h:me es j=none):bg kvs j=none:=by
 cases e:bg kvs j with
 |none=>rfl
 |some d=>
  obtain⟨v,q,_⟩:=(dl.look j).1 d e;rw[h]at q;cases q
def Sz{i:Nat}{x:Str}{ke ve:Expr}{ap cp:Pos}(hv:PE X (.Name x p) (Fy i))(hk:jq X B E ke g)(hval:gj X B E ve h)(hn:i3 ke=true)(hn2:i3 ve=true)(hl:(ap.endLine==cp.line)=true):
  AU X G0 B E (.Call (.Attribute (.Name x p) "setdefault" ap) [ke,ve] [] cp) (iw i g h):=by
 intro pins s U H Q I ⟨G,W,R,ex,q⟩;unfold iw at q;cases ed:W[i]? with
 |none=>rw[ed]at q;exact q.elim
 |some sl=>
  rw[ed]at q;cases sl with
  |od t kvs=>
   cases t with
   |true=>exact q.elim
   |false=>
    dsimp only at q;obtain⟨l,es,q1,q2,q3,q4,q5⟩:=R.odAt ed;have few:((fG cp (bF [ke,ve] X.env)).all (λx=> !x.1) && (oE cp (lD [] X.env)).all (λx=>x.1.isSome)
     && decide (([ke,ve]:List Expr).length+([]:List iZ).length+(if([]:List iZ).isEmpty then 0 else 1)<30))=true:=by
     rw[uw (by rw[cP,cP,hn,hn2];rfl)];rfl
    refine wpAny_Call_method rfl few hl PySem.F.plainAttrs_dict mO PySem.F.type_dict_setdefault (jh (hv pins s U H (λv H1=>v=.ref l/\H1=H) I ⟨_,q1,rfl,rfl⟩) λu s1 ⟨v,H1,I1,r1,e1,e2⟩=>?_);subst e1 e2;cases r1;obtain⟨t1,t2,_⟩:=Wm I1 (.inl ⟨es,.inl q2⟩);refine⟨t1,t2,?_⟩;rw[Mp hn hn2];have qk:ResP (E) G H1 (g W) λdk=>ResP E G H1 (h W) λdv=>∃j,bz dk=some j/\kvs.length<aM/\Cq (kx X) G0 B E G U (match bg kvs j with
     |some d=>.ok d W
     |none=>.ok dv (W.set i (.od false (pv kvs j dv)))) λd G' H' _=>∀v,Den (kx X) G' d v->Q v H':=by
     cases eg:g W with
     |er c=>rw[eg]at q;exact λG' H' e=>q G' H' (ex.trans e)
     |st=>rw[eg]at q;exact q
     |ok dk=>
      rw[eg]at q;dsimp only at q;show ResP E G H1 (h W) _;cases eh:h W with
      |er c=>rw[eh]at q;exact λG' H' e=>q G' H' (ex.trans e)
      |st=>rw[eh]at q;exact q
      |ok dv=>
       rw[eh]at q;dsimp only at q;cases ej:bz dk with
       |none=>rw[ej]at q;exact q.elim
       |some j=>
        rw[ej]at q;dsimp only at q
        by_cases hl:kvs.length<aM
        ·rw[aJ hl]at q;exact⟨j,rfl,hl,q⟩
        ·rw[aK hl]at q;exact q.elim
    refine lI rfl (jY (iX (jh (hk pins s1 U H1 (λy H2=>∃G2 dk,Ext G H1 G2 H2/\Arg (kx X) G2 H2 dk y/\ResP E G H1 (h W) λdv=>∃j,bz dk=some j/\kvs.length<aM/\Cq (kx X) G0 B E G U (match bg kvs j with
     |some d=>.ok d W
     |none=>.ok dv (W.set i (.od false (pv kvs j dv)))) λd G' H' _=>∀v,Den (kx X) G' d v->Q v H') I1 ⟨G,W,R,qk.mono λdk _ qk y G2 H2 e2 ay=>⟨G2,dk,e2,ay,qk⟩⟩) λyv s2 ⟨y,H2,I2,ry,G2,dk,e2,ay,qv⟩=>?_)))
    refine iX (jh (hval pins s2 U H2 (λz H3=>∃G3 dv j,Ext G2 H2 G3 H3/\Den (kx X) G3 dv z/\bz dk=some j/\kvs.length<aM/\Cq (kx X) G0 B E G U (match bg kvs j with
     |some d=>.ok d W
     |none=>.ok dv (W.set i (.od false (pv kvs j dv)))) λd G' H' _=>∀v,Den (kx X) G' d v->Q v H') I2 ⟨G2,W,R.ext e2,(qv.ext e2).mono λdv _ ⟨j,ej,hl,q⟩ z G3 H3 e3 dz=>⟨G3,dv,j,e3,dz,ej,hl,q⟩⟩) λzv s3 ⟨z,H3,I3,rz,G3,dv,j,e3,dz,ej,hsz,q⟩=>nN ?_)
    have e23:=e2.trans e3;have h3:=e23.hh _ _ q2;have g3:=e23.fr _ _ q2 q4 rfl;have dl3:=q3.mono e23.gg;have R3:=R.ext e23;rw[o3 ay ej]at ry;refine Vr I3 h3 (by rw[<-dl3.length];exact hsz) ry rz (λv' w s' ev rw' I'=>?_) λs' ev I'=>?_
    ·cases el:bg kvs j with
     |none=>rw[(dl3.look j).2 el]at ev;cases ev
     |some d=>
      rw[el]at q;obtain⟨v2,z1,z2⟩:=(dl3.look j).1 d el;rw[z1]at ev;cases ev;exact⟨v',H3,I',rw',q G3 H3 e23.gg R3 (ex.trans e23) v' z2⟩
    ·have el:=T7 dl3 ev;rw[el]at q;exact⟨z,_,I',rz,q G3 _ e23.gg (EnvR.wrD R3 ed q1 h3 (dl3.put dz j)) (Ext.wr (ex.trans e23) g3 q5) z dz⟩
  |no=>exact q.elim
  |pu _=>exact q.elim
  |bo _=>exact q.elim
  |ow _=>exact q.elim
def Qy(kvs:List (D×D)):List D:=kvs.map (·.1)
theorem Gf{K:KA}{G:Hp}:∀{kvs:List (D×D)}{es:List (gi×V)},DenK K G kvs es->DenL K G (Qy kvs) (es.map λp=>kV p.1)
 |[],es,h=>by rw[show es=[]from h];rfl
 |(_,_)::_,es,⟨k,v,r,h1,h0,h2,h3⟩=>by
  subst h1 h0;refine⟨kV k,_,rfl,?_,Gf h3⟩;cases k<;>rfl
def iy:D->Option D
 |.lst ds=>some (.lst ds)
 |.tup ds=>some (.lst ds)
 |.dct false kvs=>some (.lst (Qy kvs))
 |_=>none
def QM{P:bQ}{w:cF}{k:gi}{v:aH}(h:(bb P w).is k v=true):RelV (kV k) v:=by
 rcases cj (show Bb k v=true from h)with ⟨i,t,rfl,rfl⟩|⟨x,t,rfl,rfl⟩
 ·exact⟨t,rfl⟩
 ·exact⟨t,rfl⟩
def Nj(hc:X.calm=true):CallR X (.type "list") (λxs H Q=>∃p es,xs=[.ref p]/\H p=some (.dK es)/\∀l,H l=none->Q (.ref l) (upd H l (.lst (es.map λp=>kV p.1)))):=by
 intro pins s U H xs us Q I r h;obtain⟨p,es,rfl,hp,q⟩:=h;obtain⟨u,rfl,rx⟩:=mj r;cases rx;obtain⟨z,hd,vs,rel,dd⟩:=Qe I.hok hp;obtain⟨ep,da⟩:=dd.dictAt;refine PySem.W.kdl_call (PySem.W.kdl_dict (knd:=bb X.prog X.w) (kvs:=vs) (ep:=ep) hd) (I.ok.hd hc) da (by rw[<-rel.length];exact z) λh' tk acc c' hk hS ⟨hn,hacc⟩=>?_;have hv:Vals (es.map λp=>kV p.1) acc.toList:=by
  refine Mz (by rw[aF,rel.length];simp[hn]) λi x u e1 e2=>?_;obtain⟨k,y,ek,hk'⟩:=hacc i u (by simpa using e2);rw[bN]at e1;have key:∀{l:List (gi×V)}{m:List (gi×aH)},KV l m->∀(i:Nat)(p:gi×V)(q:gi×aH),l[i]?=some p->m[i]?=some q->p.1=q.1:=by
   intro l m r;induction r with
   |nil=>intro i p q e;simp at e
   |@cons a b as bs hh t ih=>
    intro i p q e1 e2;cases i with
    |zero=>simp at e1 e2;subst e1 e2;exact hh.1
    |succ i=>exact ih i p q (by simpa using e1) (by simpa using e2)
  cases eo:es[i]? with
  |none=>rw[eo]at e1;cases e1
  |some pr=>
   rw[eo]at e1;cases e1;have:=key rel i pr (k,y) eo ek;show RelV (kV pr.1) u;rw[this];exact QM hk'
 refine⟨.ref _,_,I.laid (t':=tk) (o:=.lst (es.map λp=>kV p.1)) hk (aR _) ⟨by rw[aF];exact z,acc.toList,c',hv,by simpa using hS⟩,rfl,q _ I.fresh⟩
def L6(hc:X.calm=true)(hg:Gl X "list")(hm:X.mg "list"=none)(ha:jq X B E e g)(hn:i3 e=true):AN X B E (.Call (.Name "list" p) [e] [] pos) (g1 iy g):=
 PE.imp (m5 (CallR.or Ic (Nj hc)) hg hm PyProof.Rows.boot_list (fc ha ip (a5 hn)) (by decide) (by decide) (a5 hn) rfl) λU H Q ⟨G,W,R,q⟩=>⟨G,W,R,by
  unfold aa;unfold g1 at q;cases e:g W with
  |er c=>rw[e]at q;exact q
  |st=>rw[e]at q;exact q
  |ok dx=>
   rw[e]at q;obtain⟨d,ed,ds,e2,qd⟩:=ResP.of (show ResP E G H (Res.of (iy dx)) _ from q);subst e2;intro vs G1 H1 e1 al;obtain⟨v,rfl,ax⟩:=ArgsM.one al;unfold iy at ed;split at ed
   ·cases ed;obtain⟨l,vs,rfl,sq,dl⟩:=ax.lst e1.gh;exact .inl ⟨l,vs,rfl,.inl sq,λp hp=>qd p vs G1 _ (e1.trans (Ext.own e1.gh _ hp)) (cz e1.hh hp) (cz e1.gh hp) bp dl⟩
   ·cases ed;obtain⟨l,vs,rfl,sq,dl⟩:=ax.tup e1.gh;exact .inl ⟨l,vs,rfl,.inr sq,λp hp=>qd p vs G1 _ (e1.trans (Ext.own e1.gh _ hp)) (cz e1.hh hp) (cz e1.gh hp) bp dl⟩
   ·cases ed;obtain⟨l,es,rfl,h1,dl⟩:=Arg.dctK e1.gh ax;exact .inr ⟨l,es,rfl,h1,λp hp=>qd p _ G1 _ (e1.trans (Ext.own e1.gh _ hp)) (cz e1.hh hp) (cz e1.gh hp) bp (Gf dl)⟩
   ·cases ed⟩
def Tc:PY (g1 iy g):=λW d h=>by
 unfold g1 at h;cases e:g W with
 |er c=>rw[e]at h;cases h
 |st=>rw[e]at h;cases h
 |ok dx=>
  rw[e]at h;have h':Res.of (iy dx)=.ok d:=h;unfold iy at h';split at h'
  ·cases h';exact⟨_,rfl⟩
  ·cases h';exact⟨_,rfl⟩
  ·cases h';exact⟨_,rfl⟩
  ·cases h'
end
section
variable{X:Cx}{G0 B:Hp}{E:EK}{e a b:Expr}{es:List Expr}{g h k:En->Res}{pos p:Pos}
def RP:gj X B E (.Dict [] [] pos) (gC (.dct false [])):=
 PE.imp L8 λU H Q ⟨G,W,R,q⟩ p hp=>q (.ref p) (upd G p (.dK [])) _ (Ext.new R.gh _ hp) ⟨p,rfl,.inl ⟨rfl,[],bp,rfl⟩⟩
def Nf:CallR X (.type "dict") (λxs H Q=>∃p es,xs=[.ref p]/\H p=some (.dK es)/\∀l,H l=none->Q (.ref l) (upd H l (.dK es))):=by
 intro pins s U H xs us Q I r h;obtain⟨p,es,rfl,hp,q⟩:=h;obtain⟨u,rfl,rx⟩:=mj r;cases rx;obtain⟨z,hd,vs,rel,dd⟩:=Qe I.hok hp;refine kt_call_dict hd dd (by rw[<-rel.length];exact z) λh' hm hs=>?_;refine⟨.ref _,_,I.laid (t':=s.toks) (o:=.dK es) (λb u e=>?_) (aR _) ⟨z,beq_eq_false_iff_ne.mpr (dX (bH I.big)),vs,rel,hm⟩,rfl,q _ (I.hok.fresh (aR _))⟩;have hb:b≠s.heap.objs.size:=λz=>by
  subst z;exact cO _ (aP e)
 rw[hs.2 b hb];exact aC _ e
def EnvR.setDc{K:KA}{G G' H H':Hp}{U:St}{W:En}{i:Nat}{a:Addr}{kvs:List (D×D)}{es:List (gi×V)}(R:EnvR K B G H U W)(e:Ext G H G' H')(hn:H a=none)(gn:G' a=none)(ha:H' a=some (.dK es))(dk:DenK K G' kvs es):EnvR K B G' H' (U.set i (some (.ref a))) (W.set i (.od false kvs)):=by
 have R':=R.ext e;have bn:B a=none:=cz R.bh hn;have oth:∀(j:Nat) s,W[j]?=some s->s.own=true->U[j]?=some (some (V.ref a))->False:=λj s q1 q2 q3=>by
  obtain⟨o,z1,z2⟩:=R.sl j s q1;rw[q3]at z1;cases z1;obtain⟨a',z,u,z3,_⟩:=z2.ref q2;cases z;rw[hn]at z3;cases z3
 have at_i:∀{s:Sl},(W.set i (.od false kvs))[i]?=some s->s=.od false kvs/\i<W.length:=λq=>by
  have hl:i<W.length:=by
   have:=(List.getElem?_eq_some_iff.mp q).1;rwa [cC]at this
  rw[aS hl]at q;cases q;exact⟨rfl,hl⟩
 refine⟨R'.bh,R'.gh,by rw[cC,cC];exact R.len,λj s q=>?_,λj s b q1 q2 q3=>?_,λj k s t b q1 q2 q3 q4 q5 q6=>?_,R'.gb⟩
 ·by_cases z:i=j
  ·subst z;obtain⟨rfl,hl⟩:=at_i q;exact⟨some (.ref a),aS (by rw[R.len];exact hl),a,es,rfl,ha,dk⟩
  ·rw[aV z]at q⊢;exact R'.sl j s q
 ·by_cases z:i=j
  ·subst z;obtain⟨rfl,hl⟩:=at_i q1;rw[aS (by rw[R.len];exact hl)]at q3;cases q3;exact⟨gn,bn⟩
  ·rw[aV z]at q1 q3;exact R'.own j s b q1 q2 q3
 ·by_cases zj:i=j
  ·subst zj;obtain⟨rfl,hl⟩:=at_i q1;rw[aS (by rw[R.len];exact hl)]at q5;cases q5
   by_cases zk:i=k
   ·exact zk
   ·rw[aV zk]at q2 q6;exact(oth k t q2 q4 q6).elim
  ·rw[aV zj]at q1 q5
   by_cases zk:i=k
   ·subst zk;obtain⟨rfl,hl⟩:=at_i q2;rw[aS (by rw[R.len];exact hl)]at q6;cases q6;exact(oth j s q1 q3 q5).elim
   ·rw[aV zk]at q2 q6;exact R'.dis j k s t b q1 q2 q3 q4 q5 q6
def YG(K:KA)(B:Hp)(E:EK)(g:En->Res):TE:=λU H Q=>∃G W,EnvR K B G H U W/\ResP E G H (g W) λd=>∃kvs,d=.dct false kvs/\∀a es G' H',Ext G H G' H'->H a=none->G' a=none->H' a=some (.dK es)->DenK K G' kvs es->Q (.ref a) H'
def DW(hg:Gl X "dict")(hm:X.mg "dict"=none)(ha:jq X B E e g)(hn:i3 e=true):PE X (.Call (.Name "dict" p) [e] [] pos) (YG (kx X) B E g):=
 PE.imp (m5 Nf hg hm PyProof.Rows.boot_dict (fc ha ip (a5 hn)) (by decide) (by decide) (a5 hn) rfl) λU H Q ⟨G,W,R,q⟩=>⟨G,W,R,by
  unfold aa;cases e:g W with
  |er c=>rw[e]at q;exact q
  |st=>rw[e]at q;exact q
  |ok dx=>
   rw[e]at q;obtain⟨kvs,rfl,qd⟩:=q;intro vs G1 H1 e1 al;obtain⟨v,rfl,ax⟩:=ArgsM.one al;obtain⟨l,es,rfl,h1,dl⟩:=Arg.dctK e1.gh ax;exact⟨l,es,rfl,h1,λp hp=>qd p es G1 _ (e1.trans (Ext.own e1.gh _ hp)) (cz e1.hh hp) (cz e1.gh hp) bp dl⟩⟩
def Ap(i:Nat)(g:En->Res):En->Out:=λW=>(g W).then λd=>match d with
 |.dct false kvs=>.nx (W.set i (.od false kvs))
 |_=>.st
def FL(hs:PS X (.Assign [.Name x pos'] e pos) (Mu (YG (kx X) B E g) (ti i))):tq X G0 B E (.Assign [.Name x pos'] e pos) (Ap i g):=
 PS.imp hs λD U H ⟨G,W,R,e,q⟩=>⟨G,W,R,(rf e q).mono λd _ q=>by
  cases d with
  |dct t kvs=>
   cases t with
   |false=>exact⟨kvs,rfl,λa es G' H' e1 hn gn hh dl=>q _ G' H' e1.gg (R.setDc e1 hn gn hh dl) (e.trans e1)⟩
   |true=>exact q.elim
  |non=>exact q.elim
  |bl _=>exact q.elim
  |int _=>exact q.elim
  |str _=>exact q.elim
  |tup _=>exact q.elim
  |lst _=>exact q.elim
  |obj _ _=>exact q.elim
  |fn _=>exact q.elim⟩
end
def Ai(kvs:List (D×D))(more:List (gi×D)):List (D×D):=more.foldl (λacc p=>pv acc p.1 p.2) kvs
def PD(K:KA)(G:Hp):List (gi×D)->List (gi×V)->Prop
 |[],[]=>True
 |(j,d)::r,(k,v)::q=>j=k/\Den K G d v/\PD K G r q
 |_,_=>False
theorem PD.merge{K:KA}{G:Hp}:∀{l:List (gi×D)}{q:List (gi×V)}{kvs:List (D×D)}{es:List (gi×V)},PD K G l q->DenK K G kvs es->DenK K G (Ai kvs l) (uo es q)
 |[],[],_,_,_,h=>h
 |(j,d)::r,(k,v)::q,kvs,es,⟨e,dv,t⟩,h=>by
  subst e;exact PD.merge (l:=r) (q:=q) t (h.put dv j)
def Jc:typeLookup (.type "list") "keys"=pure none:=am_miss_of_fast (by decide+kernel)
def ym:typeLookup (.type "list") "__getattr__"=pure none:=by rw[oY,lW];kernel_rfl
def Iv(a:Addr)(its:Array aH)(n:Nat)(sl:Array (Option aH))(u:Tok):
  Meets (Builtin.«object.__getattribute__» ⟨[.ref a,.str "keys" u],[]⟩) (λA R s=>s.heap.get? a=some {cls:=.type "list",dict:=none,data:=.seq its n,slots:=sl}/\raisesAttr (.ref a) "keys" A R s):=
 Meets.of_wp λprog w A R s hs=>by
  obtain⟨hp,g,d,tk,os⟩:=s;obtain⟨hx,hs⟩:=hs;have hT:(⟨hp,g,d,tk,os⟩:aN).TypeIs (.ref a) "list":=⟨_,hx,rfl⟩;have hmiss:=Jc;unfold Builtin.«object.__getattribute__»
  repeat (any_goals (first|assumption|wp_step))
  exact wpAny_raiseAttrError (A:=A.in1) hs.1 hs.2 (attrMsg_fits (by decide+kernel) (by rw[eU];decide))
def Je{prog:bQ}{w:cF}{A:cS}{E:aH->aN->Prop}{h:Heap}{g:Array GenState}{d:Drawn}{t:Nat}{os:OsState}{a:Addr}{its:Array aH}{n:Nat}{sl:Array (Option aH)}{Q:Option aH->aN->Prop}(hx:h.get? a=some {cls:=.type "list",dict:=none,data:=.seq its n,slots:=sl})(hA:A.handled=none)
  (hq:∀h' tk,(∀b ob,h.get? b=some ob->h'.get? b=some ob)->Q none ⟨h',g,d,tk,os⟩):aQ (bI prog w) A (getAttr? (.ref a) "keys") Q E ⟨h,g,d,t,os⟩:=by
 have hT:(⟨h,g,d,t,os⟩:aN).TypeIs (.ref a) "list":=⟨_,hx,rfl⟩;have f1:=sub_AttributeError;have f3:=F.slot_list_getattribute.lookup;have f4:=F.slot_list_getattribute.bind (.ref a);have f5:=ym;unfold getAttr? getAttrBy? getAttrBy
 repeat (any_goals (first|assumption|((with_reducible show aQ _ _ (call (Value.builtin "list.__getattribute__") _ _) _ _ _);refine call_meets F.slot_list_getattribute hT F.entry_list_ga (F.args_list_getattribute_2 _ _) (Iv a its n sl _) ⟨hx,hA,λh' tk' e hx'=>?_⟩)|wp_step))
 obtain⟨t',u',he⟩:=hx'.there;show aQ _ _ (getattributeRaised _ _ _ _ _ _ _) _ _ _;unfold getattributeRaised
 repeat (any_goals (first|assumption|wp_step))
 exact hq h' _ hx'.keeps
def su:entryFor table "dict.update.loop"=some Builtin.«dict.update.loop»:=entryFor_of_tree (by kernel_rfl)
def jw:plainId "dict.update.loop"=true:=by decide+kernel
def Hw(prog:bQ)(w:cF)(h:Heap)(kv:gi×aH)(v:aH):Prop:=∃p o k n,v=.ref p/\h.get? p=some o/\o.cls=.type "tuple"/\o.data=.seq #[k,kv.2] n/\(bb prog w).is kv.1 k=true
section
variable{prog:bQ}{w:cF}{A:cS}{R:Result->aN->Prop}{I:Addr}{fp wr:List Addr}{St:Nat->Heap->Prop}{ps:List (gi×aH)}{items:Array aH}
def Oo(W:Walks prog w A.in1 I fp wr ps.length (λi v=>items[i]?=some v) St)(d:Addr)(hd:d∉fp)(hz:ps.length<=aM):
  ∀(rest:List (gi×aH))(i:Nat)(s:aN)(kvs:List (gi×aH)),ps.drop i=rest->i<=ps.length->St i s.heap->s.heap.DictOf (bb prog w) d kvs->kvs.length<=i->
   (∀(j:Nat) kv v,ps[j]?=some kv->items[j]?=some v->Hw prog w s.heap kv v/\v≠.ref d/\∀b∈wr,v≠.ref b)->
   (∀h' tk,(∀b o,b≠d->b∉wr->s.heap.get? b=some o->h'.get? b=some o)->h'.DictOf (bb prog w) d (merged kvs rest)->R (.ok (.ret .none)) {s with heap:=h',toks:=tk})->
   hU (bI prog w) A (.builtin "dict.update.loop" ⟨[.ref d,.ref I,cE i,.none],[]⟩) R s:=by
 have haw:d∉wr:=λz=>hd (W.sub _ z);intro rest;induction rest with
 |nil=>
  intro i s kvs hdr hi st hT hk hP hR;have hin:i=ps.length:=by
   have:=congrArg iU hdr;rw[dR,eZ]at this
   lia
  subst hin;refine eO su ?_;rw[dM jw _];show aQ _ A.in1 (fH (.ref I)>>=_) _ _ s;refine aA (W.done s _ _ st λh' tk hk=>?_);show aQ _ A.in1 (Builtin.Dict.addKeywords d []>>=λ_=>ret bU) _ _ _;refine aA (aB (aB (hR h' tk (λb o _ hb e=>hk b o hb e) ?_)));obtain⟨o,es,ep,h1,h2⟩:=hT;exact⟨o,es,ep,hk d o haw h1,h2⟩
 |cons n rest ih=>
  intro i s kvs hdr hi st hT hkl hP hR;have hlt:i<ps.length:=by
   have:=congrArg iU hdr;rw[dR,aL]at this
   lia
  have hni:ps[i]?=some n:=by
   have:(ps.drop i)[0]?=some n:=by rw[hdr];rfl
   simpa using this
  have hd':ps.drop (i+1)=rest:=by
   have:(ps.drop i).drop 1=rest:=by rw[hdr];rfl
   rw[List.drop_drop]at this;exact this
  refine eO su ?_;rw[dM jw _];show aQ _ A.in1 (fH (.ref I)>>=_) _ _ s;refine aA (W.item i s _ _ hlt st λv h1 tk1 hv st1 hk1=>?_);have hP':∀(j:Nat) kv v,ps[j]?=some kv->items[j]?=some v->Hw prog w h1 kv v/\v≠.ref d/\∀b∈wr,v≠.ref b:=λj kv v e1 e2=>by
   obtain⟨⟨p,o,k,m,rfl,g1,g2⟩,g3,g4⟩:=hP j kv v e1 e2;exact⟨⟨p,o,k,m,rfl,hk1 p o (λz=>g4 p z rfl) g1,g2⟩,g3,g4⟩
  obtain⟨⟨p,o,k,m,rfl,g1,g2,g3,g4⟩,g5,g6⟩:=hP' i n v hni hv;have hT1:h1.DictOf (bb prog w) d kvs:=by
   obtain⟨o,es,ep,z1,z2⟩:=hT;exact⟨o,es,ep,hk1 d o haw z1,z2⟩
  have hTp:Shared.TypeIs {s with heap:=h1,toks:=tk1} (.ref p) "tuple":=⟨o,g1,g2⟩;show aQ _ A.in1 (pO [bX p] _>>=_) _ _ _;refine aA (dO ?_);refine aA (kC ?_);unfold Builtin.Dict.pairItems;refine aA (hV hTp ?_);rw[aJ (by decide)];refine aA (cL g1 g3 (aB ?_));show aQ _ A.in1 (pO [k,n.2] (dictSet d k n.2)) _ _ _;refine dO (wpAny_dictSet_pairs (hsz:=by lia) g4 hT1 λh2 hT2 sb=>?_);refine aB ⟨eX jw _,?_⟩;have ei:cE ((i:Int)+1)=cE ((i+1:Nat):Int):=by push_cast;rfl
  show hU (bI prog w) A (.builtin "dict.update.loop" ⟨[.ref d,.ref I,cE ((i:Int)+1),.none],[]⟩) R _;rw[ei];refine ih (i+1) _ (stored kvs n.1 n.2) hd' hlt (W.frame _ _ _ st1 λc hc o e=>?_) hT2 ?_ (λj kv v e1 e2=>?_) λh' tk hk hT'=>?_
  ·rw[sb.2 c (λz:c=d=>hd (z▸hc))];exact e
  ·have:=stored_length_le kvs n.1 n.2;lia
  ·obtain⟨⟨q,o',k',m',rfl,z1,z2⟩,z3,z4⟩:=hP' j kv v e1 e2;exact⟨⟨q,o',k',m',rfl,(sb.2 q (λz=>z3 (by rw[z]))).trans z1,z2⟩,z3,z4⟩
  ·refine hR h' tk (λc o hc hw e=>hk c o hc hw ?_) hT';show h2.get? c=some o;rw[sb.2 c hc];exact hk1 c o hw e
end
section
variable{prog:bQ}{w:cF}{A:cS}{E:aH->aN->Prop}{s:aN}
def Nh{its:Array aH}{ps:List (gi×aH)}(hh:A.handled=none)(hl:s.heap.get? l=some {cls:=.type "list",dict:=none,data:=.seq its n,slots:=sl})(hlen:its.size=ps.length)(hz:ps.length<=aM)
  (hP:∀(j:Nat) kv v,ps[j]?=some kv->its[j]?=some v->Hw prog w s.heap kv v)
  (h:∀h' tk,h'.DictOf (bb prog w) s.heap.objs.size (merged [] ps)->(∀c o,s.heap.get? c=some o->h'.get? c=some o)->Q (.ref s.heap.objs.size) {s with heap:=h',toks:=tk}):
  aQ (bI prog w) A (call (.type "dict") [.ref l]) Q E s:=by
 refine callType_codes (Q₁:=λobj s₁=>obj=.ref s.heap.objs.size/\s₁={s with heap:=s.heap.push {cls:=.type "dict",data:=.dict #[]}}) F.kt_called_dict (F.kt_typeCall_dict_1 _) F.entry_dict_init (kt_code_dict_new _ ⟨rfl,rfl⟩) ?_
 rintro obj s₁ ⟨rfl,rfl⟩
 have hnew:(s.heap.push {cls:=.type "dict",data:=.dict #[]}).DictOf (bb prog w) s.heap.objs.size []:=Heap.DictOf.new s.heap;generalize hh1:s.heap.push {cls:=.type "dict",data:=.dict #[]}=h1 at hnew⊢;have k1:∀c o,s.heap.get? c=some o->h1.get? c=some o:=λc o e=>by rw[<-hh1];exact aC _ e
 have hl1:=k1 _ _ hl;have hT:Shared.TypeIs {s with heap:=h1} (.ref l) "list":=⟨_,hl1,rfl⟩;refine⟨hnew.typeIs,F.args_dict_init_2 _ _,?_⟩;unfold Builtin.«dict.__init__»;refine aA ?_;unfold Builtin.Dict.selfAndRest;refine aA (wpAny_notOrdered_dict hnew.typeIs ?_);show aQ _ _ (pure (s.heap.objs.size,[bX l])) _ _ _;refine aB ?_;show aQ _ _ (Builtin.Dict.updateFrom "dict.__init__" s.heap.objs.size (.ref l) [] .none) _ _ _;unfold Builtin.Dict.updateFrom;refine aA (hV hT ?_);rw[aJ (by decide)];obtain⟨hp,g,dr,tk,os⟩:=s;refine aA (Je hl1 (by simpa using hh) λh2 tk2 k2=>?_);rw[aJ (by rfl)];refine aA (iG ?_);have hl2:=k2 _ _ hl1;refine aA (jO (items:=its) ⟨_,hl2,rfl,n,rfl⟩ ?_);refine aB ⟨eX jw _,?_⟩;have hl2':h2.IsList l its:=⟨_,hl2,rfl,n,rfl⟩;obtain⟨od,es,ep,hod,hrest⟩:=hnew;have hod2:=k2 _ _ hod;have d2:hp.objs.size<h2.objs.size:=aP hod2;have lt:l<hp.objs.size:=aP hl;have hneI:l≠h2.objs.size:=bH (lJ lt d2);have W:=Walks.list (prog:=prog) (w:=w) (A:=A.in1.in1) hh h2.objs.size l hneI its;rw[hlen]at W;show hU _ _ (.builtin "dict.update.loop" ⟨[_,_,cE ((0:Nat):Int),.none],[]⟩) _ _;refine Oo W hp.objs.size ?_ hz ps 0 _ [] rfl (cT _) ⟨⟨_,aT _ rfl,rfl,rfl⟩,hl2'.push _⟩ ⟨od,es,ep,aC _ hod2,hrest⟩ (cT _) (λj kv v e1 e2=>?_) λh' tk' hk hD=>⟨rfl,h h' tk' hD λc o e=>?_⟩
 ·simp only[cR,fE,or_false,not_or];exact⟨bH d2,eK lt⟩
 ·obtain⟨p,o,k,m,rfl,g1,g2⟩:=hP j kv v e1 e2;have lp:p<hp.objs.size:=aP g1;refine⟨⟨p,o,k,m,rfl,aC _ (k2 _ _ (k1 _ _ g1)),g2⟩,λz=>?_,λb hb z=>?_⟩
  ·injection z with z
   exact bH lp z
  ·injection z with z
   have:b=h2.objs.size:=by simpa using hb
   exact bH (lJ lp d2) (z.trans this)
 ·have lc:c<hp.objs.size:=aP e;refine hk c o (bH lc) (λhb=>?_) (aC _ (k2 _ _ (k1 _ _ e)));have:c=h2.objs.size:=by simpa using hb
  exact bH (lJ lc d2) this
end
noncomputable def ma:List D->Option (List (gi×D))
 |[]=>some []
 | .tup [k, v] :: r => (match bz k, ma r with
  |some j,some l=>some ((j,v)::l)
  |_,_=>none)
 |_=>none
def sa:D->Option D
 |.lst ds=>if ds.length<=aM then(ma ds).map λl=>.dct false (Ai [] l)else none
 |_=>none
def L7(h:ma (d::r)=some l):∃k v j t,d=.tup [k,v]/\bz k=some j/\ma r=some t/\l=(j,v)::t:=by
 unfold ma at h;split at h
 ·rename_i e;cases e
 ·rename_i k v r' e;cases e;cases e1:bz k with
  |none=>rw[e1]at h;cases h
  |some j=>
   cases e2:ma r with
   |none=>rw[e1,e2]at h;cases h
   |some t=>rw[e1,e2]at h;cases h;exact⟨k,v,j,t,rfl,e1,rfl,rfl⟩
 ·cases h
section
variable{X:Cx}{B:Hp}{E:EK}{e:Expr}{g:En->Res}{pos p:Pos}
theorem Hc(I:Inv X pins U H s)(sg:Same G H):∀{ds:List D}{l:List (gi×D)}{vs:List V}{its:List aH},ma ds=some l->DenL (kx X) G ds vs->Vals vs its->
  ∃(kvs:List (gi×V)) (ps:List (gi×aH)),KV kvs ps/\PD (kx X) G l kvs/\ps.length=its.length/\∀(j:Nat) kv v,ps[j]?=some kv->its[j]?=some v->Hw X.prog X.w s.heap kv v
 |[],l,vs,its,h,dl,r=>by
  cases h;cases (show vs=[]from dl);cases r;exact⟨[],[],.nil,jA,rfl,λj kv v e=>by simp at e⟩
 |d::ds,l,vs,its,h,dl,r=>by
  obtain⟨k,v,j,t,rfl,ek,et,rfl⟩:=L7 h;obtain⟨v0,vr,rfl,dv,dr⟩:=dl;cases r with
  |cons rv rr=>
   obtain⟨kvs,ps,a1,a2,a3,a4⟩:=Hc I sg et dr rr;obtain⟨b,us,rfl,hb,dl2⟩:=dv;obtain⟨uk,q1,rfl,dk,uv,q2,rfl,du,e0⟩:=dl2;cases e0;have huk:uk=kV j:=o3 (H:=G) (.inl dk) ek;subst huk;obtain⟨_,its2,r2,o,h1,h2,n,h3⟩:=(show ObjOk X.prog X.w H s.heap b (.tup [kV j,uv])from I.hok b _ (sg _ _ hb));cases r2 with
   |cons ra rb=>
    cases rb with
    |cons rc rd=>
     cases rd;rename_i kk vv;refine⟨(j,uv)::kvs,(j,vv)::ps,.cons ⟨rfl,rc⟩ a1,⟨rfl,du,a2⟩,by rw[aL,aL,a3],λi kv w e1 e2=>?_⟩;cases i with
     |zero=>
      simp at e1 e2;subst e1 e2;exact⟨b,o,kk,n,rv,h1,h2,by simpa using h3,yh ra⟩
     |succ i=>exact a4 i kv w (by simpa using e1) (by simpa using e2)
def MH(X:Cx):List V->Hp->VK->Prop:=λxs H Q=>∃a vs G ds l,xs=[.ref a]/\SqL X.K H a vs/\Same G H/\DenL (kx X) G ds vs/\ds.length<=aM/\ma ds=some l/\∀p kvs,H p=none->PD (kx X) G l kvs->Q (.ref p) (upd H p (.dK (uo [] kvs)))
def Ng(hc:X.calm=true):CallR X (.type "dict") (MH X):=by
 intro pins s U H xs us Q I r q;obtain⟨a,vs,G,ds,l,rfl,sq,sg,dl,hz,e,q⟩:=q;obtain⟨u,rfl,ru⟩:=mj r;cases ru;obtain⟨its,rv,⟨o,n,h1,h2,h3,h4⟩,_⟩:=I.list sq;obtain⟨ocls,odict,odata,oslots⟩:=o;simp only at h2 h3 h4;subst h2 h3 h4;obtain⟨kvs,ps,a1,a2,a3,a4⟩:=Hc I sg e dl rv;have zl:ps.length<=aM:=by rw[a3,<-rv.length,<-dl.length];exact hz
 have zk:(uo [] kvs).length<=aM:=by
  have h1:=wa kvs [];have h2:kvs.length=ps.length:=kQ a1;simp only[eZ]at h1
  lia
 refine Nh (I.ok.hd hc) h1 (by rw[a3];simp) zl (λj kv v e1 e2=>a4 j kv v e1 (by simpa using e2)) λh' tk hD hk=>?_;exact⟨.ref s.heap.objs.size,_,I.laid (a:=s.heap.objs.size) (o:=.dK (uo [] kvs)) (t':=tk) (λb o e=>hk b o e) (aR _) ⟨zk,beq_eq_false_iff_ne.mpr (dX (bH I.big)),_,a1.merge .nil,hD⟩,rfl,q _ kvs (I.hok.fresh (aR _)) a2⟩
def Yn(hc:X.calm=true)(hg:Gl X "dict")(hm:X.mg "dict"=none)(ha:jq X B E e g)(he:bF [e] X.env=(false,eval e X.env)::bF [] X.env):gj X B E (.Call (.Name "dict" p) [e] [] pos) (g1 sa g):=
 PE.imp (m5 (Ng hc) hg hm PyProof.Rows.boot_dict (fc ha ip he) (by decide) (by decide) he rfl) λU H Q q=>JR (λG H x dx d sg ax ed Q q=>by
  unfold sa at ed;split at ed
  ·rename_i ds
   by_cases hz:ds.length<=aM
   ·rw[aJ hz]at ed;cases el:ma ds with
    |none=>rw[el]at ed;cases ed
    |some l=>
     rw[el]at ed;cases ed;obtain⟨b,vs,rfl,sq,dl⟩:=ax.lst sg;refine⟨b,vs,G,ds,l,rfl,sq,sg,dl,hz,el,λp kvs hp pd=>q _ (upd G p (.dK (uo [] kvs))) _ (Ext.new sg _ hp) ⟨p,rfl,.inl ⟨rfl,_,bp,?_⟩⟩⟩;exact DenK.mono (d9 (cz sg hp) _) (pd.merge (kvs:=[]) (es:=[]) rfl)
   ·rw[aK hz]at ed;cases ed
  ·cases ed) q
end
def Lh(w:cF):Bool:= !(w.params.followText "set-order")
section
variable{prog:bQ}{w:cF}{A:cS}{E:aH->aN->Prop}{s:aN}
def CA(x:aH)(h:Q (.ref s.heap.objs.size) {s with heap:=s.heap.push {cls:=.type "set",dict:=none,data:=.set #[] 0 (.fresh 0 0 (Lh w))}}):
  hU (bI prog w) A (.call (.builtin "set.__new__") ⟨[.type "set",x],[]⟩) (wants Q E) s:=by
 refine codeAny_of_tree ?_;show aQ _ A.in1 (checkBuiltinCall "set.__new__" ⟨[.type "set",x],[]⟩>>=λ_=>again (.builtin "set.__new__" ⟨[.type "set",x],[]⟩)) _ _ s;refine aA (lF (PySem.F.newCall_set_1 x) (aB ?_));refine⟨eX PySem.F.plain_set_new _,eO PySem.F.entry_set_new ?_⟩;rw[dM PySem.F.plain_set_new _];unfold Builtin.«set.__new__» Builtin.Frozenset.newClass;have hsub:=sub_set_self;obtain⟨hp,gs,dr,tk,os⟩:=s;dsimp only at h⊢
 wp_walk
 refine iS (aB ?_);dsimp only;simp only[newObj];refine aA (wpAny_alloc (aB (aB ?_)));exact h
end
theorem wz:∀{l:List α}{i:Nat}(h:i<l.length),(l[i]::l.eraseIdx i).Perm l
 |a::r,0,_=>iT _
 |a::r,i+1,h=>by
  have h':i<r.length:=by simpa using h
  exact(lO a (r[i]'h') (r.eraseIdx i)).trans ((wz h').cons a)
theorem Bg(next:Nat->Nat):∀(n k:Nat)(left:List α)(out:Array α),left.length=n->(pickOrder.go next n k left out).toList.Perm (out.toList++left)
 |0,k,left,out,h=>by
  have:left=[]:=List.length_eq_zero_iff.mp h;subst this;unfold pickOrder.go;rw[eM]
 |n+1,k,left,out,h=>by
  unfold pickOrder.go;have hlt:next k % left.length<left.length:=Nat.mod_lt _ (by lia)
  rw[bP hlt];dsimp only;refine(Bg next n (k+1) _ _ (by rw[List.length_eraseIdx,aJ hlt];lia)).trans ?_;rw[Array.toList_push,lM];refine List.Perm.append_left _ ?_;exact wz hlt
def Tz(next:Nat->Nat)(xs:Array α):(pickOrder next xs).toList.Perm xs.toList:=by
 have:=Bg next xs.size 0 xs.toList #[] (by simp)
 simpa[pickOrder]using this
noncomputable def pb(w:cF)(a ep:Nat)(es:Array (Int×aH)):Array (Int×aH):=if w.params.followText "set-order" then pickOrder (w.params.setOrder a ep) es else es
def oq(w:cF)(a ep:Nat)(es:Array (Int×aH)):(pb w a ep es).toList.Perm es.toList:=by
 unfold pb;split
 ·exact Tz _ _
 ·exact iT _
def SetIt(h:Heap)(I a:Addr)(slot i n ep:Nat):Prop:=h.get? I=some {cls:=.type "set_iterator",data:=.fields #[cE slot,cE i,.ref a,cE n,cE ep]}
def ij:Slot "set_iterator" "__next__" "set_iterator.__next__":=
 .of (owner:="set_iterator") (n:="__next__") (by rw[oY,lW];kernel_rfl) (by decide+kernel) (by decide+kernel) (by decide+kernel) (.inl (by decide+kernel)) (by rw[isSubtype_type];kernel_rfl)
def sf:entryFor table "set_iterator.__next__"=some Builtin.«set_iterator.__next__»:=entryFor_of_tree (by kernel_rfl)
def se(a:aH):argsOk "set_iterator.__next__" ⟨[a],[]⟩:=by
 unfold argsOk;kernel_rfl
def yy:Slot "set_iterator" "__iter__" "set_iterator.__iter__":=
 .of (owner:="set_iterator") (n:="__iter__") (by rw[oY,lW];kernel_rfl) (by decide+kernel) (by decide+kernel) (by decide+kernel) (.inl (by decide+kernel)) (by rw[isSubtype_type];kernel_rfl)
def Eu:entryFor table "set.__iter__"=some Builtin.«frozenset.__iter__»:=entryFor_alias (id':="frozenset.__iter__") (by kernel_rfl) rfl (by decide+kernel) (by kernel_rfl)
def Ew(a:aH):argsOk "set_iterator.__iter__" ⟨[a],[]⟩:=by
 unfold argsOk;kernel_rfl
def Ex:entryFor table "set_iterator.__iter__"=some Builtin.«dict_keyiterator.__iter__»:=entryFor_alias (id':="dict_keyiterator.__iter__") (by kernel_rfl) (by first|rfl|decide+kernel) (by decide+kernel) (by kernel_rfl)
section
variable{prog:bQ}{w:cF}{A:cS}{E:aH->aN->Prop}{s:aN}{a I:Addr}{S:List Nat}{es:Array (Int×aH)}{ep i:Nat}
def SetIt.ty{slot n:Nat}(h:SetIt s.heap I a slot i n ep):s.TypeIs (.ref I) "set_iterator":=⟨_,h,rfl⟩
def Mi(hT:s.TypeIs (.ref a) "set")(h:Q false s):aQ (bI prog w) A (mV (.ref a)) Q E s:=by
 unfold mV;refine aA (gX hT PySem.F.slot_set_len.lookup ?_);generalize hid:("set.__len__":String)=id0
 wp_delta
 rw[show splitId id0=some ("set","__len__")from by subst hid;decide+kernel];subst hid;refine aA (fB (T:="set") (b:=true) hT sub_set_self ?_);refine jI (λhab=>absurd hab (by decide)) (λ_=>?_);refine jI (λ_=>?_) (λhab=>absurd (by decide+kernel) hab);exact aA (hV hT (aB h))
end
end Pu
end
section
namespace Pu
open PySem PySem.Spec PyProof.Rows L2 PySem.W
def GoOk(n:Nat)(cmp:Nat->Nat->Bool):KasT α->(α->Prop)->Prop
 |.ret a,R=>R a
 |.ask i j k,R=>i<n/\j<n/\GoOk n cmp (k (cmp i j)) R
section
variable{n:Nat}{cmp:Nat->Nat->Bool}
theorem GoOk.mono{R R':α->Prop}(h:∀a,R a->R' a):∀{t:KasT α},GoOk n cmp t R->GoOk n cmp t R'
 |.ret a,g=>h a g
 |.ask i j k,⟨g1,g2,g3⟩=>⟨g1,g2,GoOk.mono h g3⟩
theorem GoOk.bind:∀{t:KasT α},GoOk n cmp t (λa=>GoOk n cmp (f a) R)->GoOk n cmp (t.bind f) R
 |.ret a,g=>g
 |.ask i j k,⟨g1,g2,g3⟩=>⟨g1,g2,GoOk.bind g3⟩
theorem GoOk.wp{α:Type}{C:Nat->Nat->(Bool->aN->Prop)->aN->Prop}{R:α->Prop}{Q:α->aN->Prop}{s:aN}(hc:∀i j (K:Bool->aN->Prop),i<n->j<n->K (cmp i j) s->C i j K s)(hq:∀a,R a->Q a s):
  ∀{t:KasT α},GoOk n cmp t R->t.kasWp C Q s
 |.ret a,g=>hq a g
 |.ask i j k,⟨g1,g2,g3⟩=>hc i j _ g1 g2 (GoOk.wp hc hq g3)
structure Ord(n:Nat)(cmp:Nat->Nat->Bool):Prop where
 as:∀i j,i<n->j<n->i≠j->cmp j i= !cmp i j
 tr:∀i j k,i<n->j<n->k<n->cmp i j=true->cmp j k=true->cmp i k=true
def At(p:Array Nat)(i:Nat):Nat:=p.getD i 0
def PermR(n:Nat)(p:Array Nat):Prop:=p.toList.Perm (bT n)
theorem PermR.size{p:Array Nat}(h:PermR n p):p.size=n:=by
 have:=List.Perm.length_eq h;simpa using this
def Kb{p:Array Nat}(h:i<p.size):At p i=p[i]:=by
 unfold At;simp[nB,h]
def PermR.lt{p:Array Nat}(h:PermR n p){i:Nat}(hi:i<n):At p i<n:=by
 have hs:i<p.size:=by rw[h.size];exact hi
 rw[Kb hs];exact List.mem_range.mp (h.mem_iff.mp (by simp))
def PermR.ne(h:PermR n p)(hi:i<n)(hj:j<n)(e:i≠j):At p i≠At p j:=by
 have hs:i<p.size:=by rw[h.size];exact hi
 have ht:j<p.size:=by rw[h.size];exact hj
 rw[Kb hs,Kb ht];have nd:p.toList.Nodup:=(h.nodup_iff).mpr List.nodup_range;intro z;have pw:=List.pairwise_iff_getElem.mp nd;rcases Nat.lt_or_gt_of_ne e with q|q
 ·exact pw i j (by simpa using hs) (by simpa using ht) q (by simpa using z)
 ·exact pw j i (by simpa using ht) (by simpa using hs) q (by simpa using z.symm)
def So(cmp:Nat->Nat->Bool)(p:Array Nat)(m:Nat):Prop:=∀a b,a<b->b<m->cmp (At p a) (At p b)=true
def De(cmp:Nat->Nat->Bool)(p:Array Nat)(m:Nat):Prop:=∀a b,a<b->b<m->cmp (At p b) (At p a)=true
def So.succ(O:Ord n cmp)(hp:PermR n p)(h1:1<=m)(hm:m<n)(h:So cmp p m)(hc:cmp (At p m) (At p (m - 1))=false):So cmp p (m+1):=by
 intro a b hab hb
 by_cases hb':b<m
 ·exact h a b hab hb'
 ·obtain rfl:b=m:=by lia
  have e:cmp (At p (b - 1)) (At p b)=true:=by
   have:=O.as (At p b) (At p (b - 1)) (hp.lt hm) (hp.lt (by lia)) (hp.ne hm (by lia) (by lia));rw[this,hc];rfl
  by_cases ha:a=b - 1
  ·rw[ha];exact e
  ·exact O.tr _ _ _ (hp.lt (by lia)) (hp.lt (by lia)) (hp.lt hm) (h a (b - 1) (by lia) (by lia)) e
def De.succ(O:Ord n cmp)(hp:PermR n p)(h1:1<=m)(hm:m<n)(h:De cmp p m)(hc:cmp (At p m) (At p (m - 1))=true):De cmp p (m+1):=by
 intro a b hab hb
 by_cases hb':b<m
 ·exact h a b hab hb'
 ·obtain rfl:b=m:=by lia
  by_cases ha:a=b - 1
  ·rw[ha];exact hc
  ·exact O.tr _ _ _ (hp.lt hm) (hp.lt (by lia)) (hp.lt (by lia)) hc (h a (b - 1) (by lia) (by lia))
theorem Nb{p:Array Nat}(O:Ord n cmp)(hp:PermR n p):∀(f m:Nat),1<=m->m+f<=n->So cmp p m->GoOk n cmp (kas_asc p f m) (λk=>m<=k/\k<=m+f/\So cmp p k/\(k<m+f->cmp (At p k) (At p (k - 1))=true))
 |0,m,h1,h2,h=>⟨aR _,aR _,h,λz=>by lia⟩
 |f+1,m,h1,h2,h=>by
  refine⟨hp.lt (show m<n by lia),hp.lt (show m - 1<n by lia),?_⟩;show GoOk n cmp (if cmp (At p m) (At p (m - 1))=true then KasT.ret m else kas_asc p f (m+1)) _
  by_cases hc:cmp (At p m) (At p (m - 1))=true
  ·rw[aJ hc];exact⟨aR _,by lia,h,λ_=>hc⟩
  ·rw[aK hc];refine(Nb O hp f (m+1) (by lia) (by lia) (h.succ O hp h1 (by lia) (by simpa using hc))).mono λk g=>?_;obtain⟨g1,g2,g3,g4⟩:=g;exact⟨by lia,by lia,g3,λz=>g4 (by lia)⟩
theorem Qd{p:Array Nat}(O:Ord n cmp)(hp:PermR n p):∀(f m:Nat),2<=m->m+f<=n->De cmp p m->GoOk n cmp (kas_desc f p m 0) (λr=>r.1=p/\r.2.2=0/\m<=r.2.1/\r.2.1<=m+f/\De cmp p r.2.1)
 |0,m,h1,h2,h=>⟨rfl,rfl,aR _,aR _,h⟩
 |f+1,m,h1,h2,h=>by
  have l1:At p m<n:=hp.lt (by lia);have l2:At p (m - 1)<n:=hp.lt (by lia);refine⟨l1,l2,?_⟩;show GoOk n cmp (if cmp (At p m) (At p (m - 1))=true then(if 0>0 then kas_desc f (kas_rev p (m - (0+1)) m) (m+1) 0 else kas_desc f p (m+1) 0)
   else .ask (At p (m - 1)) (At p m) λd=>if d=true then .ret (p,m,0)else kas_desc f p (m+1) (0+1)) _
  by_cases hc:cmp (At p m) (At p (m - 1))=true
  ·rw[aJ hc,aK (by lia)];refine(Qd O hp f (m+1) (by lia) (by lia) (h.succ O hp (by lia) (by lia) hc)).mono λr g=>?_;obtain⟨g1,g2,g3,g4,g5⟩:=g;exact⟨g1,g2,by lia,by lia,g5⟩
  ·rw[aK hc];have e:cmp (At p (m - 1)) (At p m)=true:=by
    have:=O.as (At p m) (At p (m - 1)) l1 l2 (hp.ne (by lia) (by lia) (by lia));rw[this];simpa using hc
   refine⟨l2,l1,?_⟩;dsimp only;rw[aJ e];exact⟨rfl,rfl,aR _,(show m<=m+(f+1) by lia),h⟩
def PermR.rev(hp:PermR n p)(i j:Nat):PermR n (kas_rev p i j):=(Array.perm_iff_toList_perm.mp (mirror_perm p i j _)).trans hp
def PermR.bub(hp:PermR n p)(i j:Nat):PermR n (bubble p i j):=(Array.perm_iff_toList_perm.mp (bubble_perm p i j)).trans hp
def zq:At p i=(p[i]?).getD 0:=by
 unfold At;simp[Array.getD_eq_getD_getElem?]
def Vc{p:Array Nat}(hm:m<=p.size)(hk:k<m):At (kas_rev p 0 m) k=At p (m - 1 - k):=by
 rw[zq,zq];unfold kas_rev;rw[getElem?_mirror_all hm];rw[aJ (by lia)]
 congr 2
 lia
def Zl{m:Nat}(O:Ord n cmp)(hp:PermR n p)(h1:1<=m)(h2:m<=n)(h:De cmp p m):GoOk n cmp (kas_tail3 m n p) (λr=>PermR n r.2/\1<=r.1/\r.1<=n/\So cmp r.2 r.1):=by
 unfold kas_tail3;have hr:=hp.rev 0 m;have hs:So cmp (kas_rev p 0 m) m:=λa b hab hb=>by
  have hz:m<=p.size:=by rw[hp.size];exact h2
  rw[Vc hz (by lia),Vc hz hb];exact h _ _ (by lia) (by lia)
 refine GoOk.bind ((Nb O hr (n - m) m h1 (by lia) hs).mono λk g=>?_);obtain⟨g1,g2,g3,_⟩:=g;exact⟨hr,by lia,by lia,g3⟩
def Vq{p:Array Nat}(O:Ord n cmp)(hp:PermR n p)(h2:2<=n):GoOk n cmp (kas_count n p) (λr=>PermR n r.2/\1<=r.1/\r.1<=n/\So cmp r.2 r.1):=by
 unfold kas_count;refine GoOk.bind ((Nb O hp (n - 1) 1 (aR _) (by lia) (λa b h1 h2=>by lia)).mono λm g=>?_);obtain⟨g1,g2,g3,g4⟩:=g
 by_cases e1:(m==n)=true
 ·rw[aJ e1];exact⟨hp,g1,by lia,g3⟩
 ·rw[aK e1];have ne:m≠n:=λz=>e1 (by rw[z];exact beq_self_eq_true _)
  by_cases e2:m>1
  ·rw[aJ e2];refine⟨hp.lt (show 0<n by lia),hp.lt (show m - 1<n by lia),?_⟩;have:cmp (At p 0) (At p (m - 1))=true:=g3 0 (m - 1) (by lia) (by lia);show GoOk n cmp (if cmp (At p 0) (At p (m - 1))=true then _ else _) _;rw[aJ this];exact⟨hp,g1,by lia,g3⟩
  ·rw[aK e2];obtain rfl:m=1:=by lia
   have c0:=g4 (by lia);unfold kas_descPart;refine GoOk.bind ((Qd O hp (n - 2) 2 (aR _) (by lia) (λa b h1 h2=>?_)).mono λr g=>?_)
   ·obtain rfl:b=1:=by lia
    obtain rfl:a=0:=by lia
    exact c0
   ·obtain⟨k1,k2,k3,k4,k5⟩:=g;rw[k1,k2,aK (by lia)];exact Zl O hp (by lia) (by lia) k5
theorem Ed(O:Ord n cmp)(hp:PermR n p)(hk:k<n)(hs:So cmp p k):∀(f l r:Nat),l<=r->r<=k->r - l<=f->(∀a,a<l->cmp (At p a) (At p k)=true)->(∀a,r<=a->a<k->cmp (At p k) (At p a)=true)->
  GoOk n cmp (kas_place p k f l r) (λm=>m<=k/\(∀a,a<m->cmp (At p a) (At p k)=true)/\(∀a,m<=a->a<k->cmp (At p k) (At p a)=true))
 |0,l,r,h1,h2,h3,h4,h5=>by
  obtain rfl:l=r:=by lia
  exact⟨h2,h4,h5⟩
 |f+1,l,r,h1,h2,h3,h4,h5=>by
  unfold kas_place
  by_cases hl:l>=r
  ·rw[aJ hl];obtain rfl:l=r:=by lia
   exact⟨h2,h4,h5⟩
  ·rw[aK hl];have hm:(l+r) / 2<k:=by lia
   refine⟨hp.lt hk,hp.lt (by lia),?_⟩;show GoOk n cmp (if cmp (At p k) (At p ((l+r) / 2))=true then kas_place p k f l ((l+r) / 2)else kas_place p k f ((l+r) / 2+1) r) _
   by_cases hc:cmp (At p k) (At p ((l+r) / 2))=true
   ·rw[aJ hc];refine Ed O hp hk hs f l _ (by lia) (by lia) (by lia) h4 λa a1 a2=>?_
    by_cases z:a=(l+r) / 2
    ·rw[z];exact hc
    ·exact O.tr _ _ _ (hp.lt hk) (hp.lt (by lia)) (hp.lt (by lia)) hc (hs _ _ (by lia) a2)
   ·rw[aK hc];have e:cmp (At p ((l+r) / 2)) (At p k)=true:=by
     have:=O.as (At p k) (At p ((l+r) / 2)) (hp.lt hk) (hp.lt (by lia)) (hp.ne hk (by lia) (by lia));rw[this];simpa using hc
    refine Ed O hp hk hs f _ r (by lia) (by lia) (by lia) (λa ha=>?_) h5
    by_cases z:a=(l+r) / 2
    ·rw[z];exact e
    ·exact O.tr _ _ _ (hp.lt (by lia)) (hp.lt (by lia)) (hp.lt hk) (hs a _ (by lia) (by lia)) e
def Va{p:Array Nat}(hk:k<p.size)(hl:l<=k)(i:Nat):At (bubble p k (k - l)) i=if i=l then At p k else if l<i/\i<=k then At p (i - 1)else At p i:=by
 rw[zq,getElem?_bubble hk (k - l) (by lia),zq,zq,zq];have e:k - (k - l)=l:=by lia
 by_cases h1:i=l
 ·subst h1;simp[e]
 ·by_cases h2:l<i/\i<=k
  ·simp[e,h1,h2]
  ·simp[e,h1,h2]
theorem P5(O:Ord n cmp):∀(f k:Nat)(p:Array Nat),PermR n p->1<=k->k+f=n->So cmp p k->GoOk n cmp (kas_bin f p k) (λq=>PermR n q/\So cmp q n)
 |0,k,p,hp,h1,h2,hs=>by
  obtain rfl:k=n:=by lia
  exact⟨hp,hs⟩
 |f+1,k,p,hp,h1,h2,hs=>by
  unfold kas_bin;have hk:k<n:=by lia
  refine GoOk.bind ((Ed O hp hk hs k 0 k (cT _) (aR _) (by lia) (λa h=>by lia) (λa h h'=>by lia)).mono λl g=>?_);obtain⟨g1,g2,g3⟩:=g;refine P5 O f (k+1) _ (hp.bub _ _) (by lia) (by lia) λa b hab hb=>?_;have hz:k<p.size:=by rw[hp.size];exact hk
  rw[Va hz g1,Va hz g1]
  by_cases a1:a=l
  ·rw[aJ a1,aK (by lia),aJ (by lia)];exact g3 _ (by lia) (by lia)
  ·rw[aK a1]
   by_cases a2:l<a/\a<=k
   ·rw[aJ a2,aK (by lia),aJ (by lia)];exact hs _ _ (by lia) (by lia)
   ·rw[aK a2]
    by_cases b1:b=l
    ·rw[aJ b1];exact g2 _ (by lia)
    ·rw[aK b1]
     by_cases b2:l<b/\b<=k
     ·rw[aJ b2];exact hs _ _ (by lia) (by lia)
     ·rw[aK b2];exact hs _ _ hab (by lia)
def FF(O:Ord n cmp)(h2:2<=n):GoOk n cmp (kas_sort n) (λq=>PermR n q/\So cmp q n):=by
 unfold kas_sort;refine GoOk.bind ((Vq O (by unfold PermR;simp) h2).mono λr g=>?_);obtain⟨g1,g2,g3,g4⟩:=g
 by_cases hr:r.1<n
 ·rw[aJ hr];have:max r.1 1=r.1:=by lia
  rw[this];exact P5 O _ _ _ g1 g2 (by lia) g4
 ·rw[aK hr];obtain e:r.1=n:=by lia
  rw[e]at g4;exact⟨g1,g4⟩
end
end Pu
end
section
namespace Pu
open PySem PySem.Spec PyProof.Rows L2 PySem.SeqAt PySem.W
def JM(i j:Int):bZ (.int i) (.int j)=(i==j):=by rw[bZ]
theorem A7:∀(c d:List Int),fR (c.map .int) (d.map .int)=decide (c=d)
 |[],[]=>by simp[fR]
 |[],_::_=>by simp[fR]
 |_::_,[]=>by simp[fR]
 |i::c,j::d=>by
  rw[aG,aG,fR,A7 c d,JM]
  by_cases h:i=j<;>simp[h]
theorem um:∀(k l:List Int),gw (k.map .int) (l.map .int)=some (decide (k<l))
 |[],[]=>by simp[gw]
 |[],_::_=>by simp[gw]
 |_::_,[]=>by simp[gw]
 |i::k,j::l=>by
  rw[aG,aG,gw,um k l,JM];show some (if(i==j)=true then decide (k<l)else decide (i<j))=_
  congr 1
  by_cases h:i=j
  ·subst h;simp[eJ]
  ·have:(i==j)=false:=by simpa using h
   rw[this];simp[eJ,h]
theorem f6:∀k:List Int,bC (k.map .int)=true
 |[]=>rfl
 |i::k=>by
  rw[aG,bC,f6 k];rfl
theorem o4:∀k:List Int,cI (k.map .int)=0
 |[]=>rfl
 |i::k=>by
  rw[aG,cI,o4 k];rfl
def wy(x:Str)(c:List Int):List Int:=x.cps.toList.map eV++(-1)::c
theorem B7:∀(a b:List Nat)(c d:List Int),(a.map eV++(-1)::c<b.map eV++(-1)::d)↔(a<b\/(a=b/\c<d))
 |[],[],c,d=>by simp[eJ]
 |[],j::b,c,d=>by
  simp only[jB,fJ,aG,mB,eJ];have h1:(-1:Int)<eV j:=Int.lt_of_lt_of_le (by decide) (Int.natCast_nonneg j);have h2:([]:List Nat)<j::b:=by simp
  simp only[h1,h2,true_or]
 |i::a,[],c,d=>by
  simp only[jB,fJ,aG,mB,eJ];have h0:(0:Int)<=eV i:=Int.natCast_nonneg i;have h1:¬eV i<(-1:Int):=λz=>by lia
  have h2:eV i≠(-1:Int):=λz=>by lia
  have h3:¬(i::a<([]:List Nat)):=by simp
  simp[h1,h2,h3]
 |i::a,j::b,c,d=>by
  simp only[aG,mB,eJ,B7 a b c d];have h1:(eV i<eV j)↔i<j:=Int.ofNat_lt;have h2:(eV i=eV j)↔i=j:=Int.ofNat_inj;rw[h1,h2];constructor
  ·rintro (h|⟨rfl,h|⟨rfl,h⟩⟩)
   ·exact .inl (.inl h)
   ·exact .inl (.inr ⟨rfl,h⟩)
   ·exact .inr ⟨rfl,h⟩
  ·rintro ((h|⟨rfl,h⟩)|⟨e,h⟩)
   ·exact .inl h
   ·exact .inr ⟨rfl,.inl h⟩
   ·cases e;exact .inr ⟨rfl,.inr ⟨rfl,h⟩⟩
def NU:Nat->List Int->List jC->Prop
 |0,k,xs=>k≠[]/\xs=k.map .int
 |1,k,xs=>∃i c,k=i::c/\xs=[.int i,.tuple (c.map .int)]
 |_,k,xs=>∃x c,k=wy x c/\bO x=true/\xs=[.str x,.tuple (c.map .int)]
def Rx{x y:Str}(e:x.cps.toList=y.cps.toList):x=y:=by
 cases x;cases y;exact congrArg _ (Array.toList_inj.mp e)
def R6(c d:List Int):gw [.tuple (c.map .int)] [.tuple (d.map .int)]=some (decide (c<d)):=by
 have e1:CF (.tuple (c.map .int)) (.tuple (d.map .int))=some (decide (c<d)):=by rw[CF];exact um c d
 have e2:bZ (.tuple (c.map .int)) (.tuple (d.map .int))=decide (c=d):=by rw[bZ];exact A7 c d
 rw[gw,e1,e2];show some (if decide (c=d)=true then false else decide (c<d))=_
 by_cases z:c=d
 ·subst z;simp
 ·simp[z]
def NT(h:NU b k xs)(h':NU b l ys):gw xs ys=some (decide (k<l)):=by
 match b,h,h' with
 |0,h,h'=>rw[h.2,h'.2];exact um k l
 |1,h,h'=>
  obtain⟨i,c,rfl,rfl⟩:=h;obtain⟨j,d,rfl,rfl⟩:=h';rw[gw,R6,JM];show some (if(i==j)=true then decide (c<d)else decide (i<j))=_
  congr 1
  by_cases z:i=j
  ·subst z;simp[eJ]
  ·have:(i==j)=false:=by simpa using z
   rw[this];simp[eJ,z]
 |_+2,h,h'=>
  obtain⟨x,c,rfl,_,rfl⟩:=h;obtain⟨y,d,rfl,_,rfl⟩:=h';have ex:CF (.str x) (.str y)=some (decide (x.cps.toList<y.cps.toList)):=by rw[CF]
  rw[gw,R6,ex];have e3:bZ (.str x) (.str y)=decide (x=y):=by rw[bZ];by_cases e:x=y<;>simp[e]
  rw[e3];show some (if decide (x=y)=true then decide (c<d)else decide (x.cps.toList<y.cps.toList))=_
  congr 1
  have q:decide (wy x c<wy y d)=decide (x.cps.toList<y.cps.toList\/(x.cps.toList=y.cps.toList/\c<d)):=decide_eq_decide.mpr (B7 x.cps.toList y.cps.toList c d);rw[q]
  by_cases z:x=y
  ·subst z;simp[kE]
  ·have z':x.cps.toList≠y.cps.toList:=λe=>z (Rx e);simp[z,z']
def FT(b:Nat)(d:jC):Prop:=if b<2 then∃i,d=.int i else∃x,d=.str x
def Js(h:NU b k xs):bC xs=true/\cI xs<=1/\∃d r,FT b d/\xs=d::r:=by
 match b,h with
 |0,h=>
  obtain⟨h1,rfl⟩:=h;refine⟨f6 k,by rw[o4];lia,?_⟩;cases k with
  |nil=>exact absurd rfl h1
  |cons i c=>exact⟨_,_,⟨i,rfl⟩,rfl⟩
 |1,h=>
  obtain⟨i,c,rfl,rfl⟩:=h;refine⟨?_,?_,_,_,⟨i,rfl⟩,rfl⟩
  ·rw[bC,bC,bC,eF,eF,f6 c];rfl
  ·rw[cI,cI,cI,jF,jF,o4 c];simp
 |_+2,h=>
  obtain⟨x,c,rfl,ok,rfl⟩:=h;refine⟨?_,?_,_,_,by unfold FT;rw[aK (by lia)];exact⟨x,rfl⟩,rfl⟩
  ·rw[bC,bC,bC,eF,eF,f6 c,ok];rfl
  ·rw[cI,cI,cI,jF,jF,o4 c];simp
section
variable{prog:bQ}{w:cF}{A:cS}{E:aH->aN->Prop}{s:aN}
theorem Wz:∀(xs ys:List jC)(vs ws:List aH)(i:Nat)(as bs:List Addr)(c:Bool),ReadsAll s.heap vs xs as->ReadsAll s.heap ws ys bs->bC xs=true->bC ys=true->
  A.units+min (cI xs) (cI ys)<eD->gw xs ys=some c->fin=decide (xs.length<ys.length)->(i=0->∀x y,xs.head?=some x->ys.head?=some y->(∃a b,x=.int a/\y=.int b)\/∃a b,x=.str a/\y=.str b)->Q c s->KatLex prog w A true fin Q (vs.zip ws) i s
 |[],[],vs,ws,i,as,bs,c,ra,rb,ha,hb,hu,hl,hf,h0,q=>by
  cases ra;cases rb;cases hl;subst hf;exact kat_nil q
 |[],y::ys,vs,ws,i,as,bs,c,ra,rb,ha,hb,hu,hl,hf,h0,q=>by
  cases ra;cases rb;cases hl;have:fin=true:=by rw[hf];simp
  subst this;exact kat_nil q
 |x::xs,[],vs,ws,i,as,bs,c,ra,rb,ha,hb,hu,hl,hf,h0,q=>by
  cases ra;cases rb;cases hl;have:fin=false:=by rw[hf];simp
  subst this;exact kat_nil q
 |x::xs,y::ys,_,_,i,_,_,c,ra,rb,ha,hb,hu,hl,hf,h0,q=>by
  have ha':x.canLay0=true/\bC xs=true:=by simpa[bC]using ha
  have hb':y.canLay0=true/\bC ys=true:=by simpa[bC]using hb
  obtain⟨a,b,l1,l2,rfl⟩:=uj hl;cases ra with
  |@cons v vr _ _ as1 as2 r rs=>
   cases rb with
   |@cons v' vr' _ _ bs1 bs2 r' rs'=>
    refine kat_cons (eqAt_reads x y A s _ _ _ _ r r' ha'.1 hb'.1 (room_head hu) prog w _ _ ?_);cases he:bZ x y with
    |true=>
     rw[he,aJ rfl]at q;exact kat_yes (Wz xs ys _ _ (i+1) _ _ b rs rs' ha'.2 hb'.2 (room_tail hu) l2 (by rw[hf];simp) (λz=>by lia) q)
    |false=>
     rw[he,aK (by simp)]at q;refine kat_no ?_
     by_cases hi:i=0
     ·rcases h0 hi x y rfl rfl with ⟨m,n,rfl,rfl⟩|⟨m,n,rfl,rfl⟩
      ·subst hi;cases r;cases r';cases l1;exact oneLt_int q
      ·subst hi;cases r;cases r';cases l1;exact oneLt_str q
     ·have:(i==0)=false:=by simpa using hi
      rw[this,kB];exact kat_one _ _ (D5 x y A s _ _ _ _ a r r' ha'.1 hb'.1 (room_head hu) l1 prog w _ _ q)
def KU(rx:Reads s.heap x (.tuple xs) as)(ry:Reads s.heap y (.tuple ys) bs)(sx:NU b k xs)(sy:NU b l ys)(hu:A.units+1<eD)(h:Q (decide (k<l)) s):
  aQ (bI prog w) A (keyLt' (tuples' true) x y) Q E s:=by
 obtain⟨c1,d1,i1,r1,t1,e1⟩:=Js sx;obtain⟨c2,d2,i2,r2,t2,e2⟩:=Js sy;have hs:=NT sx sy;cases rx with
 |@tuple a o vs n _ as1 h1 h2 h3 h4=>
  cases ry with
  |@tuple a' o' vs' n' _ bs1 k1 k2 k3 k4=>
   have n1:vs.size=xs.length:=by simpa using ReadsAll.length _ _ _ h4
   have n2:vs'.size=ys.length:=by simpa using ReadsAll.length _ _ _ k4
   refine kat_lt h1 h3 k1 k3 (Wz xs ys _ _ 0 _ _ _ h4 k4 c1 c2 ?_ hs (by rw[n1,n2]) (λ_ x y hx hy=>?_) h)
   ·have:min (cI xs) (cI ys)<=1:=cM (Nat.min_le_left _ _) d1
    lia
   ·rw[e1]at hx;rw[e2]at hy;cases hx;cases hy;unfold FT at t1 t2
    by_cases hb:b<2
    ·rw[aJ hb]at t1 t2;obtain⟨i,rfl⟩:=t1;obtain⟨j,rfl⟩:=t2;exact .inl ⟨_,_,rfl,rfl⟩
    ·rw[aK hb]at t1 t2;obtain⟨i,rfl⟩:=t1;obtain⟨j,rfl⟩:=t2;exact .inr ⟨_,_,rfl,rfl⟩
def KeysAre(s:aN)(b:Nat):List aH->List (List Int)->Prop
 |[],[]=>True
 |v::vs,k::ks=>(∃xs as,Reads s.heap v (.tuple xs) as/\NU b k xs)/\KeysAre s b vs ks
 |_,_=>False
theorem KeysAre.len:∀{vs:List aH}{ks:List (List Int)},KeysAre s b vs ks->ks.length=vs.length
 |[],[],_=>rfl
 |[],_::_,h=>h.elim
 |_::_,[],h=>h.elim
 |v::vs,k::ks,⟨_,h⟩=>by rw[aL,aL,KeysAre.len h]
theorem KeysAre.get:∀{vs:List aH}{ks:List (List Int)},KeysAre s b vs ks->∀{i:Nat},i<vs.length->∃xs as,Reads s.heap (vs.getD i bU) (.tuple xs) as/\NU b (ks.getD i []) xs
 |[],_,_,i,h=>by simp at h
 |_::_,[],h,_,_=>h.elim
 |v::vs,k::ks,⟨h0,_⟩,0,_=>h0
 |v::vs,k::ks,⟨_,h⟩,i+1,hi=>by
  have:=KeysAre.get h (i:=i) (by simpa using hi);simpa using this
def FV(b:Nat)(v:aH):Prop:=if b<2 then∃n t,v=gW n t else∃x t,v=pL x t
theorem KeysAre.firsts:∀{vs:List aH}{ks:List (List Int)},KeysAre s b vs ks->∃fs,KatTups s.heap vs fs/\fs.length=vs.length/\∀v∈fs,FV b v
 |[],[],_=>⟨[],.nil,rfl,λv h=>by simp at h⟩
 |[],_::_,h=>h.elim
 |_::_,[],h=>h.elim
 |v::vs,k::ks,⟨⟨xs,as,r,sh⟩,h⟩=>by
  obtain⟨fs,f1,f2,f3⟩:=KeysAre.firsts h;obtain⟨_,_,d,q,td,rfl⟩:=Js sh;cases r with
  |@tuple a o ws n _ as1 h1 h2 h3 h4=>
   cases hw:ws.toList with
   |nil=>rw[hw]at h4;cases h4
   |cons u us=>
    rw[hw]at h4;cases h4 with
    |cons r rs=>
     have fu:FV b u:=by
      unfold FT at td;unfold FV
      by_cases hb:b<2
      ·rw[aJ hb]at td⊢;obtain⟨i,rfl⟩:=td;cases r with
       |int _ t=>exact⟨_,_,rfl⟩
      ·rw[aK hb]at td⊢;obtain⟨i,rfl⟩:=td;cases r with
       |str _ t=>exact⟨_,_,rfl⟩
     refine⟨u::fs,KatTups.cons h1 h2 h3 ?_ f1,by simp[f2],λv hv=>?_⟩
     ·have:ws.toList[0]?=some u:=by rw[hw];rfl
      simpa using this
     ·rcases List.mem_cons.mp hv with rfl|hv
      ·exact fu
      ·exact f3 v hv
def zw(kz:List (List Int))(i j:Nat):Bool:=decide (kz.getD i []<kz.getD j [])
def Xt{kz:List (List Int)}(nd:kz.Nodup):Ord kz.length (zw kz) where
 as:=λi j hi hj ne=>by
  have e:kz.getD i []≠kz.getD j []:=by
   rw[show kz.getD i []=kz[i] by simp[hi],show kz.getD j []=kz[j] by simp[hj]];have pw:=List.pairwise_iff_getElem.mp nd;rcases Nat.lt_or_gt_of_ne ne with q|q
   ·exact pw i j hi hj q
   ·exact(pw j i hj hi q).symm
  unfold zw
  by_cases z:kz.getD i []<kz.getD j []
  ·have:¬kz.getD j []<kz.getD i []:=λy=>kE _ (mE z y);rw[decide_eq_true z,decide_eq_false this];rfl
  ·have:kz.getD j []<kz.getD i []:=kY z (dX e);rw[decide_eq_true this,decide_eq_false z];rfl
 tr:=λi j k _ _ _ h1 h2=>by
  unfold zw at *;exact decide_eq_true (mE (of_decide_eq_true h1) (of_decide_eq_true h2))
def Hy(prog:bQ)(w:cF)(A:cS)(ks vs:List aH)(R:Array Nat->Prop)(s:aN):Prop:=
 ∀E:aH->aN->Prop,aQ (bI prog w) A (keyKind' ks.toArray) (λκ s'=>s'=s/\∀E':aH->aN->Prop,aQ (bI prog w) A (sortRuns'.run (SortSt.mk' κ (ks.toArray.zip vs.toArray) #[] 7 none)) (λr s''=>
  s''=s/\failedOf r.2=none/\∃p:Array Nat,R p/\p.size=vs.length/\(arrOf r.2).map (·.2)=List.toArray (p.toList.map λi=>vs.getD i bU)) E' s) E s
def MD{ks vs:List aH}{kz:List (List Int)}(hl:ks.length=vs.length)(hk:KeysAre s b ks kz)(h2:2<=vs.length)(h64:vs.length<64)(nd:kz.Nodup)(hu:A.units+1<eD):
  Hy prog w A ks vs (λp=>PermR vs.length p/\So (zw kz) p vs.length) s:=by
 intro E;have hz:=hk.len;obtain⟨fs,f1,f2,f3⟩:=hk.firsts;have go:∀{T:aH},(T==T)=true->(T !=iW "tuple")=true->(∀v∈fs,Looks (bI prog w) s.heap (typeOf v) T)->aQ (bI prog w) A (keyKind' ks.toArray) (λκ s'=>s'=s/\∀E':aH->aN->Prop,aQ (bI prog w) A (sortRuns'.run (SortSt.mk' κ (ks.toArray.zip vs.toArray) #[] 7 none)) (λr s''=>
  s''=s/\failedOf r.2=none/\∃p:Array Nat,(PermR vs.length p/\So (zw kz) p vs.length)/\p.size=vs.length/\(arrOf r.2).map (·.2)=List.toArray (p.toList.map λi=>vs.getD i bU)) E' s) E s:=λ{T} t1 t2 t3=>by
  refine kat_kind (T:=T) f1 (by lia) t3 t1 ?_;rw[t2];refine⟨rfl,λE'=>?_⟩;have o:=Xt nd;rw[hz,hl]at o;refine cK (kat_run (Q:=λst s''=>s''=s/\failedOf st=none/\∃p:Array Nat,(PermR vs.length p/\So (zw kz) p vs.length)/\p.size=vs.length/\(arrOf st).map (·.2)=List.toArray (p.toList.map λi=>vs.getD i bU))
   (G:=λp s'=>s'=s/\PermR vs.length p/\So (zw kz) p vs.length) hl h2 h64 (λp st s' g1 g2 g3 g4=>⟨g4.1,g3,p,g4.2,g1,kat_snds hl g2⟩) ?_) (λ_ _ x=>x) (λ_ _ x=>x)
  refine GoOk.wp (cmp:=zw kz) (n:=vs.length) (R:=λp=>PermR vs.length p/\So (zw kz) p vs.length) (λi j K hi hj q=>?_) (λp r=>⟨rfl,r⟩) (FF o h2);obtain⟨xs,as,r1,s1⟩:=hk.get (i:=i) (by lia);obtain⟨ys,bs,r2,s2⟩:=hk.get (i:=j) (by lia);exact KU r1 r2 s1 s2 hu q
 by_cases hb:b<2
 ·refine go (T:=.type "int") (by decide) (by decide) λv hv=>?_;have:=f3 v hv;unfold FV at this;rw[aJ hb]at this;obtain⟨n,t,rfl⟩:=this;exact Looks.of_pure rfl
 ·refine go (T:=.type "str") (by decide) (by decide) λv hv=>?_;have:=f3 v hv;unfold FV at this;rw[aK hb]at this;obtain⟨n,t,rfl⟩:=this;exact Looks.of_pure rfl
end
noncomputable def Oj(h:Heap)(a:Addr)(vs:List aH):Heap:=((h.update a (jZ λ_=>(#[]:Array aH))).push (nW "tuple" vs.toArray 0)).push (nW "list" #[] 0)
def Xc{h:Heap}(e:h.get? b=some o)(ne:b≠a):(Oj h a vs).get? b=some o:=by
 unfold Oj;refine aC _ (aC _ ?_);rw[Heap.get?_update_ne _ _ _ _ ne];exact e
def OutOf(R:Array Nat->Prop)(vs out:List aH):Prop:=(vs.length<2/\out=vs)\/(2<=vs.length/\∃p:Array Nat,R p/\p.size=vs.length/\out=p.toList.map λi=>vs.getD i bU)
def OutOf.len{vs out:List aH}(h:OutOf R vs out):out.length=vs.length:=by
 rcases h with ⟨_,rfl⟩|⟨_,p,_,h1,rfl⟩
 ·rfl
 ·rw[aF,bB,h1]
section
variable{prog:bQ}{w:cF}{A:cS}{E:aH->aN->Prop}{s:aN}
def Pa{vs:List aH}(ho:s.heap.get? a=some (nW "list" vs.toArray n))(hz:vs.length<=1000)(hR:2<=vs.length->Hy prog w A vs vs R {s with heap:=Oj s.heap a vs})
  (h:∀out:List aH,OutOf R vs out->P (.done (.ret .none)) {s with heap:=sortedHeap s.heap a vs out.toArray}):aQ (bI prog w) A (Builtin.«list.sort» ⟨[.ref a],[]⟩) P E s:=by
 have ha:a<s.heap.objs.size:=aP ho;have zl:vs.length<=aM:=by rw[eU];lia
 obtain⟨e1,ho1⟩:∃e1,(s.heap.update a (jZ λ_=>(#[]:Array aH))).get? a=some (nW "list" #[] e1):=⟨_,get?_update_seq ho λ_=>#[]⟩;have ho6:(Oj s.heap a vs).get? a=some (nW "list" #[] e1):=aC _ (aC _ ho1);rw[list_sort_plain];refine aA (listItems_at ho rfl (aA (listUpdate_at ho rfl ?_ (by simpa using zl) (cT _))));refine aA (seqEpoch_at ho1 rfl (aA (nC (aA (wpAny_newList (dO ?_) (cT _))) zl)));show aQ (bI prog w) A _ P E {s with heap:=Oj s.heap a vs};dsimp only
 by_cases h2:vs.toArray.size<2
 ·have h2':vs.length<2:=by simpa using h2
  rw[aJ h2,aJ h2];refine aA (aB ?_);rw[StateT.run_pure];refine aA (aB ?_);dsimp only;have em:Array.map (λx:Keyed=>x.2) (vs.toArray.zip vs.toArray)=vs.toArray:=by
   apply Array.toList_inj.mp;rw[Array.toList_map,Array.toList_zip];exact oJ (aR _)
  rw[show(arrOf (SortSt.mk' general' (vs.toArray.zip vs.toArray) #[] 7 none)).map (·.2)=vs.toArray from em];refine aA (seqEpoch_at ho6 rfl (aA (listUpdate_at ho6 rfl ?_ (cT _) (cM (jD (bL ..)) (by lia)))));simp only[bne_self_eq_false,Bool.false_eq_true,if_false];exact aB (h vs (.inl ⟨h2',rfl⟩))
 ·have h2':2<=vs.length:=by simpa using h2
  rw[aK h2,aK h2];refine aA (cK (hR h2' _) (λκ s' g=>?_) λ_ _ x=>x);obtain⟨rfl,g⟩:=g;refine aA (cK (g _) (λr s' g=>?_) λ_ _ x=>x);obtain⟨rfl,hf,p,hp,hs,ho'⟩:=g;obtain⟨⟨⟩,st⟩:=r;dsimp only at hf ho'⊢;rw[ho',hf];have zo:(p.toList.map λi=>vs.getD i bU).length<=aM:=by rw[aF,bB,hs];exact zl
  refine aA (seqEpoch_at ho6 rfl (aA (listUpdate_at ho6 rfl ?_ (cT _) (cM (jD (bL ..)) (by lia)))));simp only[bne_self_eq_false,Bool.false_eq_true,if_false];exact aB (h _ (.inr ⟨h2',p,hp,hs,rfl⟩))
end
def QN:D->Option Int
 |.int i=>some i
 |_=>none
def qm:List D->Option (List Int)
 |[]=>some []
 |d::ds=>match QN d,qm ds with
  |some i,some r=>some (i::r)
  |_,_=>none
def K7:D->Option (List Int)
 |.tup ds=>match qm ds with
  |some (i::r)=>some (i::r)
  |_=>none
 |_=>none
def j9:List D->Option (List (List Int))
 |[]=>some []
 |d::ds=>match K7 d,j9 ds with
  |some k,some r=>some (k::r)
  |_,_=>none
theorem Dn:∀{ds:List D}{ns:List Int},qm ds=some ns->ds=ns.map D.int
 |[],ns,h=>by cases h;rfl
 |d::ds,ns,h=>by
  unfold qm at h;cases e1:QN d with
  |none=>rw[e1]at h;cases h
  |some i=>
   cases e2:qm ds with
   |none=>rw[e1,e2]at h;cases h
   |some r=>
    rw[e1,e2]at h;cases h;cases d<;>first|(cases e1;rw[Dn e2];rfl)|cases e1
def BB{k:List Int}(h:K7 d=some k):k≠[]/\d=.tup (k.map D.int):=by
 unfold K7 at h;cases d with
 |tup ds=>
  dsimp only at h;cases e:qm ds with
  |none=>rw[e]at h;cases h
  |some ns=>
   rw[e]at h;cases ns with
   |nil=>cases h
   |cons i r=>cases h;exact⟨by simp,by rw[Dn e]⟩
 |_=>cases h
def nr(h:j9 (d::ds)=some kz):∃k r,K7 d=some k/\j9 ds=some r/\kz=k::r:=by
 unfold j9 at h;cases e1:K7 d with
 |none=>rw[e1]at h;cases h
 |some k=>
  cases e2:j9 ds with
  |none=>rw[e1,e2]at h;cases h
  |some r=>rw[e1,e2]at h;cases h;exact⟨k,r,rfl,rfl,rfl⟩
theorem Ar:∀ns:List Int,fb (ns.map D.int)=some (ns.map eC)
 |[]=>rfl
 |i::r=>by
  rw[aG,fb,Ar r];rfl
section
variable{X:Cx}{pins:List (Addr×Obj)}{U:St}{G H:Hp}{s:aN}
theorem La(I:Inv X pins U H s)(sg:Same G H):∀{ds:List D}{kz:List (List Int)}{vs:List V}{us:List aH},j9 ds=some kz->DenL (kx X) G ds vs->Vals vs us->KeysAre s 0 us kz
 |[],kz,vs,us,h,dl,r=>by
  cases h;cases (show vs=[]from dl);cases r;trivial
 |d::ds,kz,vs,us,h,dl,r=>by
  obtain⟨k,r',h1,h2,rfl⟩:=nr h;obtain⟨v,vr,rfl,dv,dr⟩:=dl;obtain⟨hn,rfl⟩:=BB h1;cases r with
  |cons rv rr=>
   refine⟨?_,La I sg h2 dr rr⟩;obtain⟨as,ra⟩:=yr I sg dv rv (show fq (.tup (k.map D.int))=some (.tuple (k.map eC)) by rw[fq,Ar]);exact⟨_,as,ra,hn,rfl⟩
end
noncomputable def N5(x:List Int×D):List (List Int×D)->List (List Int×D)
 |[]=>[x]
 |y::r=>if x.1<y.1 then x::y::r else y::N5 x r
def yz(l:List (List Int×D)):List (List Int×D):=l.foldr N5 []
theorem Ad(x:List Int×D):∀l,(N5 x l).Perm (x::l)
 |[]=>.refl _
 |y::r=>by
  unfold N5;split
  ·exact .refl _
  ·exact((Ad x r).cons y).trans (lO x y r)
theorem j3:∀l,(yz l).Perm l
 |[]=>.refl _
 |x::r=>(Ad x _).trans ((j3 r).cons x)
theorem Qv:∀{l:List (List Int×D)},l.Pairwise (λa b=>a.1<b.1)->(∀y∈l,y.1≠x.1)->(N5 x l).Pairwise (λa b=>a.1<b.1)
 |[],_,_=>by unfold N5;exact List.pairwise_singleton _ _
 |y::r,h,hn=>by
  unfold N5;obtain⟨h1,h2⟩:=List.pairwise_cons.mp h;split
  ·rename_i c;refine List.pairwise_cons.mpr ⟨λz hz=>?_,h⟩;rcases List.mem_cons.mp hz with rfl|hz
   ·exact c
   ·exact mE c (h1 z hz)
  ·rename_i c;have lt:y.1<x.1:=kY c (hn y (.head _));refine List.pairwise_cons.mpr ⟨λz hz=>?_,Qv h2 λz hz=>hn z (.tail _ hz)⟩;rcases List.mem_cons.mp ((Ad x r).mem_iff.mp hz)with rfl|hz
   ·exact lt
   ·exact h1 z hz
theorem y6:∀{l:List (List Int×D)},(l.map (·.1)).Nodup->(yz l).Pairwise (λa b=>a.1<b.1)
 |[],_=>nP
 |x::r,h=>by
  obtain⟨h1,h2⟩:=List.nodup_cons.mp (show(x.1::r.map (·.1)).Nodup from h);refine Qv (y6 h2) λy hy e=>h1 ?_;rw[<-e];exact List.mem_map_of_mem ((j3 r).mem_iff.mp hy)
def T1{kz:List (List Int)}{ds:List D}{p:Array Nat}(hl:kz.length=ds.length)(nd:kz.Nodup)(hp:PermR ds.length p)(hs:So (zw kz) p ds.length):p.toList.map (λi=>ds.getD i D.non)=(yz (kz.zip ds)).map (·.2):=by
 have e:p.toList.map (λi=>(kz.getD i [],ds.getD i D.non))=yz (kz.zip ds):=by
  have pr:(p.toList.map λi=>(kz.getD i [],ds.getD i D.non)).Perm (kz.zip ds):=by
   have:(bT ds.length).map (λi=>(kz.getD i [],ds.getD i D.non))=kz.zip ds:=by
    refine List.ext_getElem (by simp[hl]) λi h1 h2=>?_;have:i<ds.length:=by simpa using h1
    have:i<kz.length:=by lia
    simp[*]
   rw[<-this];exact List.Perm.map _ hp
  have nz:((kz.zip ds).map (·.1)).Nodup:=by
   rw[oK (by lia)];exact nd
  refine List.Perm.eq_of_pairwise (le:=λa b:List Int×D=>a.1<b.1) (λa b _ _ h1 h2=>absurd (mE h1 h2) (kE _)) ?_ (y6 nz) (pr.trans (j3 _).symm);rw[jP,List.pairwise_iff_getElem];intro i j hi hj hij;have hz:=hp.size;have hj':j<ds.length:=by rw[<-hz];simpa using hj
  have:=hs i j hij hj';rw[Kb (by lia),Kb (by lia)]at this;simpa[zw]using this
 rw[<-e,bV];rfl
end Pu
end
section
namespace Pu
open PySem PySem.Spec PyProof.Rows L2
def vz:List D->Option (List gi)
 |[]=>some []
 |d::r=>match bz d,vz r with
  |some k,some ks=>some (k::ks)
  |_,_=>none
theorem K9:∀ks:List gi,vz (ks.map kD)=some ks
 |[]=>rfl
 |k::ks=>by
  show(match bz (kD k),vz (ks.map kD)with
   |some k,some ks=>some (k::ks)
   |_,_=>none)=_
  rw[ui,K9 ks]
def Xg:D->Option NK
 |.tup ds=>(vz ds).map .inr
 |d=>(bz d).map .inl
def Om:List D->Option bf
 |[]=>some []
 |d::r=>match Xg d,Om r with
  |some k,some ks=>some (k::ks)
  |_,_=>none
def jg:D->Option bf
 |.tup ds=>Om ds
 |_=>none
def Xh:∀k:NK,Xg (HD k)=some k
 |.inl (.inl _)=>rfl
 |.inl (.inr _)=>rfl
 |.inr ks=>by show(vz (ks.map kD)).map kW=_;rw[K9];rfl
theorem Q8:∀ks:bf,Om (ks.map HD)=some ks
 |[]=>rfl
 |k::ks=>by
  show(match Xg (HD k),Om (ks.map HD)with
   |some k,some ks=>some (k::ks)
   |_,_=>none)=_
  rw[Xh,Q8 ks]
def qo(ks:bf):jg (kT ks)=some ks:=Q8 ks
theorem yb{K:KA}{G:Hp}:∀{ds:List D}{vs:List V}{ks:List gi},DenL K G ds vs->vz ds=some ks->vs=ks.map kV
 |[],_,_,h,e=>by cases e;exact h
 |d::r,_,ks,⟨v,t,h1,h2,h3⟩,e=>by
  unfold vz at e;cases e1:bz d with
  |none=>rw[e1]at e;cases e
  |some k=>
   cases e2:vz r with
   |none=>rw[e1,e2]at e;cases e
   |some ks'=>
    rw[e1,e2]at e;cases e;rw[h1,yb h3 e2,o3 (H:=G) (.inl h2) e1];rfl
def JO{K:KA}{G:Hp}{d:D}{v:V}{k:NK}(h:Den K G d v)(e:Xg d=some k):nkAt G k v:=by
 have one:∀{d:D},Den K G d v->(bz d).map kI=some k->nkAt G k v:=λ{d} h e=>by
  cases e1:bz d with
  |none=>rw[e1]at e;cases e
  |some j=>rw[e1]at e;cases e;exact o3 (H:=G) (.inl h) e1
 cases d with
 |tup ds=>
  obtain⟨a,vs,rfl,h2,h3⟩:=h;have e:(vz ds).map kW=some k:=e;cases e1:vz ds with
  |none=>rw[e1]at e;cases e
  |some ks=>rw[e1]at e;cases e;exact⟨a,rfl,by rw[<-yb h3 e1];exact h2⟩
 |_=>exact one h e
theorem C7{K:KA}{G:Hp}:∀{ds:List D}{vs:List V}{ks:bf},DenL K G ds vs->Om ds=some ks->NkL G ks vs
 |[],_,_,h,e=>by cases e;exact h
 |d::r,_,ks,⟨v,t,h1,h2,h3⟩,e=>by
  unfold Om at e;cases e1:Xg d with
  |none=>rw[e1]at e;cases e
  |some k=>
   cases e2:Om r with
   |none=>rw[e1,e2]at e;cases e
   |some ks'=>
    rw[e1,e2]at e;cases e;exact⟨v,t,h1,JO h2 e1,C7 h3 e2⟩
noncomputable def Li:List (D×D)->bf->Option D
 |[],_=>none
 |(k,d)::r,j=>if jg k=some j then some d else Li r j
def Ac(kvs:List (D×D))(j:bf):Bool:=kvs.any λp=>decide (jg p.1=some j)
def Yr(kvs:List (D×D))(j:bf)(v:D):List (D×D):=if Ac kvs j=true then kvs.map (λp=>if jg p.1=some j then(p.1,v)else p)else kvs++[(kT j,v)]
section
variable{K:KA}{G:Hp}
theorem DenT.length:∀{kvs:List (D×D)}{es:List (bf×V)},DenT K G kvs es->kvs.length=es.length
 |[],_,h=>by rw[show _=[]from h];rfl
 |(_,_)::_,_,⟨k,v,r,h1,_,_,h3⟩=>by rw[h1,aL,aL,DenT.length h3]
theorem DenT.look:∀{kvs:List (D×D)}{es:List (bf×V)},DenT K G kvs es->∀j,(∀d,Li kvs j=some d->∃v,me es j=some v/\Den K G d v)/\(Li kvs j=none->me es j=none)
 |[],es,h,j=>by
  rw[show es=[]from h];exact⟨λd e=>(by cases e),λ_=>My⟩
 |(k,d)::r,es,h,j=>by
  obtain⟨k',v,t,rfl,rfl,dv,dt⟩:=h;obtain⟨i1,i2⟩:=DenT.look dt j;unfold Li;rw[qo k']
  by_cases e:k'=j
  ·subst e;rw[aJ rfl];exact⟨λd' z=>⟨v,uz rfl,by cases z;exact dv⟩,λz=>by cases z⟩
  ·rw[aK (λz=>e (bM z))];refine⟨λd' z=>?_,λz=>?_⟩
   ·obtain⟨u,q1,q2⟩:=i1 d' z;exact⟨u,(oo e).trans q1,q2⟩
   ·exact(oo e).trans (i2 z)
theorem DenT.has:∀{kvs:List (D×D)}{es:List (bf×V)},DenT K G kvs es->∀j,Ac kvs j=es.any λkv=>decide (kv.1=j)
 |[],es,h,j=>by rw[show es=[]from h];rfl
 |(k,d')::r,es,h,j=>by
  obtain⟨k',u,t,rfl,rfl,du,dt⟩:=h;have ih:=DenT.has dt j;unfold Ac at ih⊢;rw[fQ,fQ,ih]
  congr 1
  rw[qo k']
  by_cases e:k'=j
  ·simp[e]
  ·rw[decide_eq_false e,decide_eq_false λz=>e (bM z)]
theorem DenT.repl(dv:Den K G d v):∀{kvs:List (D×D)}{es:List (bf×V)},DenT K G kvs es->∀j,DenT K G (kvs.map λp=>if jg p.1=some j then(p.1,d)else p) (es.map λkv=>if kv.1=j then(kv.1,v)else kv)
 |[],es,h,j=>by rw[show es=[]from h];rfl
 |(k,d')::r,es,h,j=>by
  obtain⟨k',u,t,rfl,rfl,du,dt⟩:=h;have ih:=DenT.repl dv dt j;rw[aG,aG];dsimp only;rw[qo k']
  by_cases e:k'=j
  ·rw[aJ e,aJ (by rw[e])];exact⟨k',v,_,rfl,rfl,dv,ih⟩
  ·rw[aK e,aK λz=>e (bM z)];exact⟨k',u,_,rfl,rfl,du,ih⟩
theorem DenT.snoc(dv:Den K G d v):∀{kvs:List (D×D)}{es:List (bf×V)},DenT K G kvs es->∀j,DenT K G (kvs++[(kT j,d)]) (es++[(j,v)])
 |[],es,h,j=>by rw[show es=[]from h];exact⟨j,v,[],rfl,rfl,dv,rfl⟩
 |(k,d')::r,es,h,j=>by
  obtain⟨k',u,t,rfl,rfl,du,dt⟩:=h;exact⟨k',u,_,rfl,rfl,du,DenT.snoc dv dt j⟩
def DenT.put(dv:Den K G d v)(h:DenT K G kvs es)(j:bf):DenT K G (Yr kvs j d) (ou es j v):=by
 unfold Yr ou;rw[h.has j]
 by_cases e:(es.any λkv=>decide (kv.1=j))=true
 ·rw[aJ e,aJ e];exact h.repl dv j
 ·rw[aK e,aK e];exact h.snoc dv j
end
section
variable{X:Cx}{G0 B:Hp}{E:EK}{e a b:Expr}{es:List Expr}{g h k:En->Res}{pos p:Pos}
def Eo(i:Nat):En->Out:=λW=>.nx (W.set i (.od true []))
def EnvR.setDT{K:KA}{G H:Hp}{U:St}{W:En}{i:Nat}{a:Addr}(R:EnvR K B G H U W)(hn:H a=none):EnvR K B G (upd H a (.dT [])) (U.set i (some (.ref a))) (W.set i (.od true [])):=by
 have e:Ext G H G (upd H a (.dT [])):=Ext.own R.gh _ hn;have R':=R.ext e;have gn:G a=none:=cz R.gh hn;have bn:B a=none:=cz R.bh hn;have oth:∀(j:Nat) s,W[j]?=some s->s.own=true->U[j]?=some (some (V.ref a))->False:=λj s q1 q2 q3=>by
  obtain⟨o,z1,z2⟩:=R.sl j s q1;rw[q3]at z1;cases z1;obtain⟨a',z,u,z3,_⟩:=z2.ref q2;cases z;rw[hn]at z3;cases z3
 have at_i:∀{s:Sl},(W.set i (.od true []))[i]?=some s->s=.od true []/\i<W.length:=λq=>by
  have hl:i<W.length:=by
   have:=(List.getElem?_eq_some_iff.mp q).1;rwa [cC]at this
  rw[aS hl]at q;cases q;exact⟨rfl,hl⟩
 refine⟨R'.bh,R'.gh,by rw[cC,cC];exact R.len,λj s q=>?_,λj s b q1 q2 q3=>?_,λj k s t b q1 q2 q3 q4 q5 q6=>?_,R.gb⟩
 ·by_cases z:i=j
  ·subst z;obtain⟨rfl,hl⟩:=at_i q;exact⟨some (.ref a),aS (by rw[R.len];exact hl),a,[],rfl,bp,rfl⟩
  ·rw[aV z]at q⊢;exact R'.sl j s q
 ·by_cases z:i=j
  ·subst z;obtain⟨rfl,hl⟩:=at_i q1;rw[aS (by rw[R.len];exact hl)]at q3;cases q3;exact⟨gn,bn⟩
  ·rw[aV z]at q1 q3;exact R'.own j s b q1 q2 q3
 ·by_cases zj:i=j
  ·subst zj;obtain⟨rfl,hl⟩:=at_i q1;rw[aS (by rw[R.len];exact hl)]at q5;cases q5
   by_cases zk:i=k
   ·exact zk
   ·rw[aV zk]at q2 q6;exact(oth k t q2 q4 q6).elim
  ·rw[aV zj]at q1 q5
   by_cases zk:i=k
   ·subst zk;obtain⟨rfl,hl⟩:=at_i q2;rw[aS (by rw[R.len];exact hl)]at q6;cases q6;exact(oth j s q1 q3 q5).elim
   ·rw[aV zk]at q2 q6;exact R'.dis j k s t b q1 q2 q3 q4 q5 q6
def FM(hs:PS X (.Assign [.Name x pos'] (.Dict [] [] p) pos) (Mu Zh (ti i))):tq X G0 B E (.Assign [.Name x pos'] (.Dict [] [] p) pos) (Eo i):=
 PS.imp hs λD U H ⟨G,W,R,e,q⟩=>λa ha=>q _ G _ (Same.refl G) (R.setDT ha) (e.trans (Ext.own R.gh _ ha))
def EnvR.odAtT{K:KA}{G H:Hp}{U:St}{W:En}{i:Nat}{kvs:List (D×D)}(R:EnvR K B G H U W)(h:W[i]?=some (.od true kvs)):∃a es,U[i]?=some (some (V.ref a))/\H a=some (.dT es)/\DenT K G kvs es/\G a=none/\B a=none:=by
 obtain⟨o,q1,a,vs,q2,q3,q4⟩:=R.sl i _ h;subst q2;obtain⟨g,b⟩:=R.own i _ a h rfl q1;exact⟨a,vs,q1,q3,q4,g,b⟩
def EnvR.wrDT{K:KA}{G H:Hp}{U:St}{W:En}{i:Nat}{kvs kvs':List (D×D)}{a:Addr}{es es':List (bf×V)}(R:EnvR K B G H U W)(hi:W[i]?=some (.od true kvs))(hs:U[i]?=some (some (V.ref a)))(ha:H a=some (.dT es))(dl:DenT K G kvs' es'):
  EnvR K B G (upd H a (.dT es')) U (W.set i (.od true kvs')):=by
 obtain⟨gn,bn⟩:=R.own i _ a hi rfl hs;have hl:i<W.length:=(List.getElem?_eq_some_iff.mp hi).1;have sb:∀{F:Hp},F a=none->Same F H->Same F (upd H a (.dT es')):=λfn s b u q=>by
  rw[aq (bj q fn)];exact s b u q
 have ownEq:∀{j:Nat}{s:Sl},(W.set i (.od true kvs'))[j]?=some s->s.own=true->∃s',W[j]?=some s'/\s'.own=true:=λ{j s} q o=>by
  by_cases z:i=j
  ·subst z;exact⟨_,hi,rfl⟩
  ·rw[aV z]at q;exact⟨s,q,o⟩
 refine⟨sb bn R.bh,sb gn R.gh,by rw[cC];exact R.len,λj s q=>?_,λj s b q1 q2 q3=>?_,λj k s t b q1 q2 q3 q4 q5 q6=>?_,R.gb⟩
 ·by_cases z:i=j
  ·subst z;rw[aS hl]at q;cases q;exact⟨_,hs,a,es',rfl,bp,dl⟩
  ·rw[aV z]at q;obtain⟨o,z1,z2⟩:=R.sl j s q;refine⟨o,z1,?_⟩;cases s with
   |no=>trivial
   |pu d=>exact z2
   |bo d=>exact z2
   |ow fs=>
    obtain⟨b,us,y1,y2,y3⟩:=z2;have nb:b≠a:=by
     rintro rfl
     rw[ha]at y2;cases y2
    exact⟨b,us,y1,by rw[aq nb];exact y2,y3⟩
   |od t fs=>
    cases t with
    |true=>
     obtain⟨b,us,y1,y2,y3⟩:=z2;have nb:b≠a:=by
      rintro rfl
      subst y1;exact z (R.dis i j _ _ b hi q rfl rfl hs z1)
     exact⟨b,us,y1,by rw[aq nb];exact y2,y3⟩
    |false=>
     obtain⟨b,us,y1,y2,y3⟩:=z2;have nb:b≠a:=by
      rintro rfl
      rw[ha]at y2;cases y2
     exact⟨b,us,y1,by rw[aq nb];exact y2,y3⟩
 ·obtain⟨s',z1,z2⟩:=ownEq q1 q2;exact R.own j s' b z1 z2 q3
 ·obtain⟨s',z1,z2⟩:=ownEq q1 q3;obtain⟨t',y1,y2⟩:=ownEq q2 q4;exact R.dis j k s' t' b z1 y1 z2 y2 q5 q6
def Arg.keys{K:KA}{G H:Hp}{d:D}{v:V}{ks:bf}(s:Same G H)(h:Arg K G H d v)(e:jg d=some ks):∃b,v=.ref b/\TkAt H ks b:=by
 cases d with
 |tup ds=>
  obtain⟨b,vs,h1,h2,h3⟩:=h.tup0 s;exact⟨b,h1,vs,h2,(C7 h3 e).mono λ_ _ q=>s _ _ q⟩
 |_=>cases e
noncomputable def xo(i:Nat)(gk gv:En->Res):En->Out:=λW=>match W[i]? with
 |some (.od true kvs)=>(gv W).then λv=>(gk W).then λk=>match jg k with
  |some j=>if kvs.length<aM then .nx (W.set i (.od true (Yr kvs j v)))else .st
  |none=>.st
 |_=>.st
def FP{i:Nat}{x:Str}{p pos':Pos}{kxx vx:Expr}(hu:X.A.units+5<eD)(hv:PE X (.Name x p) (Fy i))(hk:jq X B E kxx g)(hval:gj X B E vx h)
  (hs:gO vx (some (.Subscript (.Name x p) kxx pos')) pos.line X.env=pure false:=by rfl):tq X G0 B E (.Assign [.Subscript (.Name x p) kxx pos'] vx pos) (xo i g h):=
 PS.imp (Rn hu hv hk hval hs) λD U H ⟨G,W,R,ex,q⟩=>by
  unfold xo at q;cases ed:W[i]? with
  |none=>rw[ed]at q;exact q.elim
  |some sl=>
   rw[ed]at q;cases sl with
   |od t kvs=>
    cases t with
    |false=>exact q.elim
    |true=>
     dsimp only at q;obtain⟨l,es,q1,q2,q3,q4,q5⟩:=R.odAtT ed;refine⟨G,W,R,(rf ex q).mono λdv _ q v G1 H1 e1 dn=>⟨.ref l,q1,G1,W,R.ext e1,(rf (K:=(kx X)) (ex.trans e1) (OutP.same e1.gg q)).mono λdk _ q y G2 H2 e2 ay=>?_⟩⟩;have e12:=e1.trans e2;cases ej:jg dk with
     |none=>rw[ej]at q;exact q.elim
     |some j=>
      rw[ej]at q;dsimp only at q
      by_cases hl:kvs.length<aM
      ·rw[aJ hl]at q;have h2:=e12.hh _ _ q2;have g2:=e12.fr _ _ q2 q4 rfl;obtain⟨b,rfl,hb⟩:=Arg.keys e2.gh ay ej;refine⟨l,_,rfl,DPut.t h2 hb (by rw[<-q3.length];exact hl),?_⟩;exact q U G2 _ e2.gg (EnvR.wrDT (R.ext e12) ed q1 h2 ((q3.mono e12.gg).put (dn.mono e2.gg) j)) (Ext.wr (ex.trans e12) g2 q5)
      ·rw[aK hl]at q;exact q.elim
   |no=>exact q.elim
   |pu _=>exact q.elim
   |bo _=>exact q.elim
   |ow _=>exact q.elim
end
noncomputable def Zq:Expr->Bool
 |.Call (.Name x _) _ _ _=>decide (x≠"len") && decide (x≠"int") && decide (x≠"str")
 |.Tuple _ _ _=>true
 |_=>false
noncomputable def Pj:Nat->Expr->List Str
 |0,_=>[]
 |n+1,e=>match e with
  |.Call (.Attribute (.Name x _) m _) (k::r) _ _=>(if(m="setdefault"||m="get") && Zq k then[x]else[])++(r.flatMap (Pj n))
  |.Call (.Attribute o _ _) _ _ _=>Pj n o
  |.Compare l _ rs _=>Pj n l++rs.flatMap (Pj n)
  |.BoolOp _ es _=>es.flatMap (Pj n)
  |.UnaryOp _ e _=>Pj n e
  |.BinOp l _ r _=>Pj n l++Pj n r
  |_=>[]
def Pk:Nat->List Stmt->List Str
 |0,_=>[]
 |n+1,ss=>ss.flatMap λs=>match s with
  |.For _ it b o _=>Pj n it++Pk n b++Pk n o
  |.While c b o _=>Pj n c++Pk n b++Pk n o
  |.If c b o _=>Pj n c++Pk n b++Pk n o
  |.Assign [.Subscript (.Name x _) k _] v _=>(if Zq k then[x]else[])++Pj n v
  |.Assign _ v _=>Pj n v
  |.Expr e _=>Pj n e
  |.Return (some e) _=>Pj n e
  |_=>[]
noncomputable def aj:D->D->Option D
 |.lst xs,.int i=>atI xs i
 |.tup xs,.int i=>atI xs i
 | .str z, .int i => if z.length <= aM then (match atI z.cps.toList i with
  |some c=>some (.str ⟨#[c]⟩)
  |none=>none)else none
 |.dct false kvs,k=>(bz k).bind (bg kvs)
 |.dct true kvs,k=>(jg k).bind (Li kvs)
 |_,_=>none
def RF:R2:=λx y H Q=>∃a v,x=.ref a/\DGet H a y (some v)/\Q v H
section
variable{X:Cx}{B:Hp}{E:EK}{a b:Expr}{g h:En->Res}{pos:Pos}
def BC(hu:X.A.units+5<eD):IxR X RF:=by
 intro value slice pins s U H x y v u Q I rx ry q hs;obtain⟨l,w,rfl,dg,q⟩:=q;cases rx;exact tail_any (Ko I dg) PySem.F.slot_dict_getitem.lookup (Sq hu I dg ry λw' s3 I3 rw'=>⟨w,H,I3,rw',q⟩) hs
def Arg.dctT{K:KA}{G H:Hp}{kvs:List (D×D)}{v:V}(s:Same G H)(h:Arg K G H (.dct true kvs) v):∃a es,v=.ref a/\H a=some (.dT es)/\DenT K G kvs es:=by
 rcases h with ⟨a,h1,h2⟩|⟨_,_,_,z,_⟩|⟨t',kvs',a,z,h1,h2⟩
 ·rcases h2 with ⟨z,_⟩|⟨_,es,q,r⟩
  ·cases z
  ·exact⟨a,es,h1,s _ _ q,r⟩
 ·cases z
 ·cases z;rcases h2 with ⟨z,_⟩|⟨_,es,q,r⟩
  ·cases z
  ·exact⟨a,es,h1,q,r⟩
def EV{K:KA}:ib K aj (λx y H Q=>YK K x y H Q\/RF x y H Q):=λG H x y dx dy d sg ax ay ed Q q=>by
 unfold aj at ed;split at ed
 ·obtain⟨l,vs,rfl,sq,dl⟩:=ax.lst sg;obtain⟨v,ev,dv⟩:=dl.atI ed;exact .inl (.inl ⟨l,vs,_,v,rfl,ay.int,sq,ev,q _ G H (Ext.refl sg) dv⟩)
 ·obtain⟨l,vs,rfl,sq,dl⟩:=ax.tup sg;obtain⟨v,ev,dv⟩:=dl.atI ed;exact .inl (.inr (.inl ⟨l,vs,_,v,rfl,ay.int,sq,ev,q _ G H (Ext.refl sg) dv⟩))
 ·split at ed
  ·rename_i hz;split at ed
   ·rename_i c ec;cases ed;exact .inl (.inr (.inr ⟨_,_,c,ax.str,ay.int,hz,ec,q _ G H (Ext.refl sg) rfl⟩))
   ·cases ed
  ·cases ed
 ·rename_i kvs;cases ek:bz dy with
  |none=>rw[ek]at ed;cases ed
  |some j=>
   rw[ek]at ed;obtain⟨l,es,rfl,h1,dl⟩:=Arg.dctK sg ax;obtain⟨v,ev,dv⟩:=(dl.look j).1 d ed;rw[o3 ay ek];refine .inr ⟨l,v,rfl,?_,q _ G H (Ext.refl sg) dv⟩;rw[<-ev];exact DGet.k h1
 ·rename_i kvs;cases ek:jg dy with
  |none=>rw[ek]at ed;cases ed
  |some j=>
   rw[ek]at ed;obtain⟨l,es,rfl,h1,dl⟩:=Arg.dctT sg ax;obtain⟨v,ev,dv⟩:=(dl.look j).1 d ed;obtain⟨b,rfl,hb⟩:=Arg.keys sg ay ek;refine .inr ⟨l,v,rfl,?_,q _ G H (Ext.refl sg) dv⟩;rw[<-ev];exact DGet.t h1 hb
 ·cases ed
def RN(hu:X.A.units+5<eD)(ha:jq X B E a g)(hb:jq X B E b h)(hs:Hx b:=by intro _ _;rfl):gj X B E (.Subscript a b pos) (g2 aj g h):=PE.imp (RW (JC.or (BC hu)) ha hb hs) λU H Q q=>UR EV q
end
end Pu
end
section
namespace L2
open PySem PySem.Spec PyProof.Rows
def Inv.drew{X:Cx}{pins:List (Addr×Obj)}{U:St}{H:Hp}{s:aN}(I:Inv X pins U H s)(d':Drawn):Inv X pins U H {s with drawn:=d'}:=by
 have:=I.step (h':=s.heap) (H':=H) (g':=s.gens) (d':=d') (t':=s.toks) (ch:=[]) (λ_ z=>nomatch z) (λb o _ _ _ e _=>e) (λb o _ _ _ e _=>⟨o.slots,e⟩) (λb o _ _ n=>n) (λb o _ e=>⟨o,e⟩) (λ_ _ z=>z) (λ_ _ _ z=>z) (λ_ _ z=>z) (λ_ z=>z) I.hok I.bare;exact this
end L2
namespace Pu
open PySem PySem.Spec PyProof.Rows L2 PySem.SeqAt PySem.W
theorem Qb{K:KA}{G:Hp}{ds:List D}{vs:List V}(dl:DenL K G ds vs):∀{ps:List Nat},(∀i∈ps,i<ds.length)->DenL K G (ps.map λi=>ds.getD i D.non) (ps.map λi=>vs.getD i V.non)
 |[],_=>rfl
 |i::r,h=>by
  refine⟨_,_,rfl,?_,Qb dl λj hj=>h j (.tail _ hj)⟩;have key:∀{ds:List D}{vs:List V}(i:Nat),DenL K G ds vs->i<ds.length->Den K G (ds.getD i D.non) (vs.getD i V.non):=by
   intro ds;induction ds with
   |nil=>intro vs i _ h;simp at h
   |cons d ds ih=>
    intro vs i dl h;obtain⟨v,vr,rfl,dv,dr⟩:=dl;cases i with
    |zero=>exact dv
    |succ i=>simpa using ih i dr (by simpa using h)
  exact key i dl (h i (.head _))
theorem R7{vs:List V}{us:List aH}(r:Vals vs us):∀{ps:List Nat},(∀i∈ps,i<vs.length)->Vals (ps.map λi=>vs.getD i V.non) (ps.map λi=>us.getD i bU)
 |[],_=>.nil
 |i::q,h=>by
  refine .cons ?_ (R7 r λj hj=>h j (.tail _ hj));have key:∀{vs:List V}{us:List aH}(i:Nat),Vals vs us->i<vs.length->RelV (vs.getD i V.non) (us.getD i bU):=by
   intro vs us i r;induction r generalizing i with
   |nil=>intro h;simp at h
   |cons hh t ih=>
    intro h;cases i with
    |zero=>exact hh
    |succ i=>simpa using ih i (by simpa using h)
  exact key i r (h i (.head _))
noncomputable def N9:D->Option (List Int)
 |.tup [.str x,.tup ds]=>if bO x then(qm ds).map (wy x)else none
 |_=>none
def ko:List D->Option (List (List Int))
 |[]=>some []
 |d::ds=>match N9 d,ko ds with
  |some k,some r=>some (k::r)
  |_,_=>none
def BA(h:N9 d=some k):∃x c,bO x=true/\k=wy x c/\d=.tup [.str x,.tup (c.map D.int)]:=by
 unfold N9 at h;split at h
 ·rename_i x ds;split at h
  ·rename_i ok;cases e:qm ds with
   |none=>rw[e]at h;cases h
   |some c=>rw[e]at h;cases h;exact⟨x,c,ok,rfl,by rw[Dn e]⟩
  ·cases h
 ·cases h
def nt(h:ko (d::ds)=some kz):∃k r,N9 d=some k/\ko ds=some r/\kz=k::r:=by
 unfold ko at h;cases e1:N9 d with
 |none=>rw[e1]at h;cases h
 |some k=>
  cases e2:ko ds with
  |none=>rw[e1,e2]at h;cases h
  |some r=>rw[e1,e2]at h;cases h;exact⟨k,r,rfl,rfl,rfl⟩
def i5(ds:List D):Option (Nat×List (List Int)):=match j9 ds with
 |some kz=>some (0,kz)
 |none=>(ko ds).map λkz=>(2,kz)
theorem Gv:∀{ds:List D}{kz:List (List Int)},j9 ds=some kz->kz.length=ds.length
 |[],kz,h=>by cases h;rfl
 |d::ds,kz,h=>by
  obtain⟨k,r,_,h2,rfl⟩:=nr h;rw[aL,aL,Gv h2]
theorem Gw:∀{ds:List D}{kz:List (List Int)},ko ds=some kz->kz.length=ds.length
 |[],kz,h=>by cases h;rfl
 |d::ds,kz,h=>by
  obtain⟨k,r,_,h2,rfl⟩:=nt h;rw[aL,aL,Gw h2]
def xf{ds:List D}{kz:List (List Int)}(h:i5 ds=some (b,kz)):kz.length=ds.length:=by
 unfold i5 at h;split at h
 ·rename_i e;cases h;exact Gv e
 ·cases e:ko ds with
  |none=>rw[e]at h;cases h
  |some k=>rw[e]at h;cases h;exact Gw e
noncomputable def gx(ds:List D):Option (List D):=if ds.length<2 then some ds else if ds.length<64 then(match i5 ds with
  |some (_,kz)=>if kz.Nodup then some ((yz (kz.zip ds)).map (·.2))else none
  |none=>none)else none
noncomputable def oh:D->Option D
 |.lst ds=>(gx ds).map .lst
 |.dct true kvs=>(gx (kvs.map (·.1))).map .lst
 |_=>none
def Ez{ds ds':List D}(h:gx ds=some ds'):ds.length<64/\((ds.length<2/\ds'=ds)\/(2<=ds.length/\∃b kz,i5 ds=some (b,kz)/\kz.Nodup/\ds'=(yz (kz.zip ds)).map (·.2))):=by
 unfold gx at h
 by_cases h2:ds.length<2
 ·rw[aJ h2]at h;cases h;exact⟨by lia,.inl ⟨h2,rfl⟩⟩
 ·rw[aK h2]at h
  by_cases h64:ds.length<64
  ·rw[aJ h64]at h;cases hk:i5 ds with
   |none=>rw[hk]at h;cases h
   |some p=>
    obtain⟨b,kz⟩:=p;rw[hk]at h;dsimp only at h
    by_cases nd:kz.Nodup
    ·rw[aJ nd]at h;cases h;exact⟨h64,.inr ⟨by lia,b,kz,rfl,nd,rfl⟩⟩
    ·rw[aK nd]at h;cases h
  ·rw[aK h64]at h;cases h
section
variable{X:Cx}{pins:List (Addr×Obj)}{U:St}{G H:Hp}{s:aN}
theorem Gy(I:Inv X pins U H s)(sg:Same G H):∀{ds:List D}{kz:List (List Int)}{vs:List V}{us:List aH},ko ds=some kz->DenL (kx X) G ds vs->Vals vs us->KeysAre s 2 us kz
 |[],kz,vs,us,h,dl,r=>by
  cases h;cases (show vs=[]from dl);cases r;trivial
 |d::ds,kz,vs,us,h,dl,r=>by
  obtain⟨k,r',h1,h2,rfl⟩:=nt h;obtain⟨v,vr,rfl,dv,dr⟩:=dl;obtain⟨x,c,ok,rfl,rfl⟩:=BA h1;cases r with
  |cons rv rr=>
   refine⟨?_,Gy I sg h2 dr rr⟩;have e:fq (.tup [.str x,.tup (c.map D.int)])=some (.tuple [.str x,.tuple (c.map eC)]):=by
    rw[fq,fb,fb,fb,fq,fq,Ar]
   obtain⟨as,ra⟩:=yr I sg dv rv e;exact⟨_,as,ra,x,c,rfl,ok,rfl⟩
def Ob(I:Inv X pins U H s)(sg:Same G H)(h:i5 ds=some (b,kz))(dl:DenL (kx X) G ds vs)(r:Vals vs us):KeysAre s b us kz:=by
 unfold i5 at h;split at h
 ·rename_i e;cases h;exact La I sg e dl r
 ·cases e:ko ds with
  |none=>rw[e]at h;cases h
  |some k=>rw[e]at h;cases h;exact Gy I sg e dl r
end
section
variable{X:Cx}{B:Hp}{E:EK}{e:Expr}{g:En->Res}{pos p:Pos}
def Bj{pins:List (Addr×Obj)}{U:St}{G H:Hp}{s:aN}{a:Addr}{ds':List D}{Q:VK}(hu:X.A.units+5<eD)(I:Inv X pins U H s)(sg:Same G H)
  (col:∀(Q':List aH->aN->Prop)(E':aH->aN->Prop),(∀d' h' tk its vs ds,(∀b o,s.heap.get? b=some o->h'.get? b=some o)->Vals vs its->DenL (kx X) G ds vs->gx ds=some ds'->Q' its {s with heap:=h',toks:=tk,drawn:=d'})->aQ (bI X.prog X.w) X.A.in1 (collect (.ref a)) Q' E' s)
  (q:∀p vs',H p=none->DenL (kx X) G ds' vs'->Q (.ref p) (upd H p (.lst vs'))):aQ (bI X.prog X.w) X.A (call (.builtin "sorted") [.ref a]) (EP X pins U Q) X.xe s:=by
 refine Calls.call_function_entry kind_sorted plain_sorted entry_sorted (args_sorted1 _) ?_;unfold Builtin.«sorted»;refine aA (m:=checkCount "sorted" 1 1 _) (aB (aA (col _ _ λd0 h1 tk its vs ds k1 rv dl e=>?_)));obtain⟨h64,hh⟩:=Ez e;have n1:its.length=vs.length:=rv.length.symm;have n2:vs.length=ds.length:=dl.length.symm;have zl:its.length<=aM:=by rw[eU];lia
 refine aA (wpAny_newList ?_ zl);have I1:Inv X pins U H {s with heap:=h1,toks:=tk,drawn:=d0}:=(I.drew d0).kept k1;have hoL:(h1.push (nW "list" its.toArray 0)).get? h1.objs.size=some (nW "list" its.toArray 0):=aT _ rfl;have k2:∀b o,h1.get? b=some o->(h1.push (nW "list" its.toArray 0)).get? b=some o/\b≠h1.objs.size:=λb o e=>⟨aC _ e,bH (aP e)⟩;have hR:2<=its.length->Hy X.prog X.w X.A.in1.in1 its its (λp=>PermR its.length p/\∃b kz,i5 ds=some (b,kz)/\kz.Nodup/\So (zw kz) p its.length/\ds'=(yz (kz.zip ds)).map (·.2)) {s with heap:=Oj (h1.push (nW "list" its.toArray 0)) h1.objs.size its,toks:=tk,drawn:=d0}:=λh2=>by
  rcases hh with ⟨z,_⟩|⟨_,b,kz,hk,nd,hd⟩
  ·lia
  ·have I2:Inv X pins U H {s with heap:=Oj (h1.push (nW "list" its.toArray 0)) h1.objs.size its,toks:=tk,drawn:=d0}:=I1.kept (t':=tk) λb o e=>Xc (k2 b o e).1 (k2 b o e).2;have ka:=Ob I2 sg hk dl rv;intro E';refine cK (MD (prog:=X.prog) (w:=X.w) (A:=X.A.in1.in1) (vs:=its) rfl ka h2 (by lia) nd (by show X.A.units+1+1+1<eD;lia) E') (λκ s' g=>⟨g.1,λE2=>cK (g.2 E2) (λr s2 g2=>?_) λ_ _ x=>x⟩) λ_ _ x=>x;obtain⟨g1,g2,p,⟨g3,g4⟩,g5,g6⟩:=g2;exact⟨g1,g2,p,⟨g3,b,kz,hk,nd,g4,hd⟩,g5,g6⟩
 refine aA (dO (bW slot_list_sort ⟨_,hoL,rfl⟩ entry_list_sort (Pa (s:={s with heap:=h1.push (nW "list" its.toArray 0),toks:=tk,drawn:=d0}) hoL (by lia) hR λout ho=>⟨_,rfl,aB ⟨_,rfl,?_⟩⟩) (args_list_sort _)));obtain⟨ep,hat⟩:=sortedHeap_at (out:=out.toArray) hoL;have key:∃vs',DenL (kx X) G ds' vs'/\Vals vs' out:=by
  rcases ho with ⟨z,rfl⟩|⟨z,p,⟨hp,b,kz,hk,nd,hs,hd⟩,hps,rfl⟩
  ·rcases hh with ⟨_,rfl⟩|⟨z2,_⟩
   ·exact⟨vs,dl,rv⟩
   ·lia
  ·have hp':PermR ds.length p:=by rw[<-n2,<-n1];exact hp
   have hs':So (zw kz) p ds.length:=by rw[<-n2,<-n1];exact hs
   have lt:∀i∈p.toList,i<ds.length:=λi hi=>List.mem_range.mp (hp'.mem_iff.mp hi);rw[hd,<-T1 (xf hk) nd hp' hs'];exact⟨_,Qb dl lt,R7 rv λi hi=>by rw[n2];exact lt i hi⟩
 obtain⟨vs',d',v'⟩:=key;have z:vs'.length<=aM:=by rw[v'.length,ho.len];exact zl
 refine⟨.ref h1.objs.size,_,I1.laid (a:=h1.objs.size) (o:=.lst vs') (t':=tk) (λb o e=>?_) (aR _) ⟨z,out,ep,v',hat⟩,rfl,q _ vs' (I1.hok.fresh (aR _)) d'⟩;have hlt:=aP e;rw[sortedHeap_old (k2 b o e).2 (by rw[dB];exact iB hlt)];exact(k2 b o e).1
def E1(hu:X.A.units+5<eD)(I:Inv X pins U H s)(sg:Same G H)(rv:Vals vs its)(dl:DenL (kx X) G ds vs)(e:gx ds=some ds')
  (col:∀(Q':List aH->aN->Prop)(E':aH->aN->Prop),(∀h' tk,(∀b o,s.heap.get? b=some o->h'.get? b=some o)->Q' its {s with heap:=h',toks:=tk})->aQ (bI X.prog X.w) X.A.in1 (collect (.ref a)) Q' E' s)
  (q:∀p vs',H p=none->DenL (kx X) G ds' vs'->Q (.ref p) (upd H p (.lst vs'))):aQ (bI X.prog X.w) X.A (call (.builtin "sorted") [.ref a]) (EP X pins U Q) X.xe s:=
 Bj hu I sg (λQ' E' hq=>col Q' E' λh' tk k=>hq s.drawn h' tk its vs ds k rv dl e) q
def RawD(h:Heap)(d:Addr)(es:Array DictEntry)(ep:Nat):Prop:=∃o,h.get? d=some o/\o.ExactDict/\o.data=.dict es ep
section
variable{prog:bQ}{w:cF}{A:cS}{E:aH->aN->Prop}{s:aN}{d:Addr}{es:Array DictEntry}{ep:Nat}
def RawD.ty(h:RawD s.heap d es ep):s.TypeIs (.ref d) "dict":=let ⟨o,h1,h2,_⟩:=h;⟨o,h1,h2.1⟩
def Y0(hd:(d==fN)=false)(hm:RawD s.heap d es ep)
  (hQ:Q (.ref s.heap.objs.size) {s with heap:=s.heap.push {cls:=.type "dict_keyiterator",data:=.fields #[.ref d,.int 0 0,.int es.size 0,.int ep 0]}}):
  aQ (bI prog w) A (pyIter (.ref d)) Q E s:=by
 have hT:=hm.ty;obtain⟨o,ho,hc,hdat⟩:=id hm;refine jQ hT F.slot_dict_iter (bW F.slot_dict_iter hT F.entry_dict_iter ?_ (F.args_dict_iter_1 _));unfold Builtin.«dict.__iter__»;refine aA ?_;unfold Builtin.Dict.dictSlotNone;refine aA (wpAny_notOrdered_dict hT ?_);show aQ _ _ (pure (bX d)) _ _ s;refine aB ?_;show aQ _ _ (Builtin.Dict.showsAll d>>=_) _ _ s;unfold Builtin.Dict.showsAll;rw[aK (by rw[hd];exact Bool.false_ne_true)];refine aA (aB ?_);refine aA (nS ho hdat ?_);refine aA (oZ ho hdat ?_);refine aA (cD (aB ⟨_,rfl,"dict_keyiterator",_,⟨_,aT _ rfl,rfl⟩,F.slot_dict_keyiterator_next.lookup,?_⟩));simpa[cE]using hQ
def Yz(hit:s.heap.IsKeyIter it d i es.size ep)(hm:RawD s.heap d es ep)(hlt':i<es.size)
  (hQ:∀h',h'.IsKeyIter it d (i+1) es.size ep->cJ it s.heap h'->Q (some es[i].key) {s with heap:=h'}):aQ (bI prog w) A (fH (.ref it)) Q E s:=by
 obtain⟨o,ho,hc,hd⟩:=id hit;obtain⟨od,hod,hcd,hdd⟩:=id hm;unfold fH;refine aA (fS (cA (name:=dJ "__next__") hit.typeIs fZ
  (bW fZ hit.typeIs mJ ?_ (mC _))))
 refine aA (aB ?_);refine aA ?_;refine aA ?_
 first|refine aA (fT hit.typeIs (aB ?_))|refine aA (iK hit.typeIs (aB ?_))
 refine aA (kF ho hd ?_);have hown:mP "dict_keyiterator"=false:=by decide
 simp only[hown,Bool.false_eq_true,if_false];show aQ _ _ (if(bX d==bU)=true then _ else _) _ _ s;rw[aK (show¬((bX d==bU)=true)from Bool.false_ne_true)];refine aA (aB ?_);refine aA (nS hod hdd ?_);rw[aK (by simp)];refine aA (aB ?_);refine aA (oZ hod hdd ?_);rw[aK (by simp)];refine aB ?_;simp only[show¬((i:Int)<0)from by lia,if_false,dY,bJ hlt'];refine aA ?_
 first|refine aA (fT hit.typeIs (aB ?_))|refine aA (iK hit.typeIs (aB ?_))
 refine aA (wpAny_isOneOf_keyiter hit.typeIs ?_);show aQ _ _ (setField (.ref it) 1 (cE ((i:Int)+1))>>=_) _ _ s;refine aA (eE ho hd (by simp) ?_);have hit':(s.heap.update it (eN (·.setIfInBounds 1 (cE ((i:Int)+1))))).IsKeyIter it d (i+1) es.size ep:=
  ⟨_,cG _ ho (jK (fO hd _)),(nQ ..).trans hc,by rw[fO hd];simp[cE]⟩
 refine aA (dO ?_);refine aA (wpAny_isOneOf_keyiter (s:={s with heap:=s.heap.update it (eN (·.setIfInBounds 1 (cE ((i:Int)+1))))}) hit'.typeIs ?_);show aQ _ _ (pure es[i].key) _ _ _;exact aB (aB ⟨_,rfl,aB (hQ _ hit' (cX ..))⟩)
def FR(hh:A.handled=none)(hit:s.heap.IsKeyIter it d es.size es.size ep)(hm:RawD s.heap d es ep)
  (hQ:∀h',nT it s.heap h'->Q none {s with heap:=h'}):aQ (bI prog w) A (fH (.ref it)) Q E s:=by
 obtain⟨o,ho,hc,hd⟩:=id hit;obtain⟨od,hod,hcd,hdd⟩:=id hm;unfold fH;refine aA (fS (cA (name:=dJ "__next__") hit.typeIs fZ
  (bW fZ hit.typeIs mJ ?_ (mC _))))
 refine aA (aB ?_);refine aA ?_;refine aA ?_
 first|refine aA (fT hit.typeIs (aB ?_))|refine aA (iK hit.typeIs (aB ?_))
 refine aA (kF ho hd ?_);have hown:mP "dict_keyiterator"=false:=by decide
 simp only[hown,Bool.false_eq_true,if_false];show aQ _ _ (if(bX d==bU)=true then _ else _) _ _ s;rw[aK (show¬((bX d==bU)=true)from Bool.false_ne_true)];refine aA (aB ?_);refine aA (nS hod hdd ?_);rw[aK (by simp)];refine aA (aB ?_);refine aA (oZ hod hdd ?_);rw[aK (by simp)];refine aB ?_;simp only[show¬((es.size:Int)<0)from by lia,if_false,dY,Array.getElem?_eq_none (aR es.size)];refine aA ?_
 first|refine aA (fT hit.typeIs (aB ?_))|refine aA (iK hit.typeIs (aB ?_))
 show aQ _ _ (setField (.ref it) 0 .none>>=_) _ _ s;refine aA (eE ho hd (by simp) ?_);show aQ _ _ (newExc (.type "StopIteration") []>>=_) _ _ _;refine aA ?_;simp only[newExc,newTuple];refine aA (cD ?_ (by size_fits));refine aA (m:=gS _ _) (lF (a:=bU) (by first|rfl|(simp only[gS];rfl)) ?_);refine cD ?_ (by size_fits);simp only[pG];refine aA (nX ?_);rw[show A.in1.handled=none from hh];refine aA (aB (pH ?_));refine aA (fB (T:="StopIteration") (b:=true) ⟨_,aT _ rfl,rfl⟩ lP ?_);exact aB (hQ _ (((cX ..).extBut.push _).push _))
def Uw(hh:A.handled=none)(I:Addr)(hne:d≠I):Walks prog w A I [I,d] [I] es.size (λi v=>∃e,es[i]?=some e/\v=e.key) (λi h=>h.IsKeyIter I d i es.size ep/\RawD h d es ep) where
 sub:=λb hb=>by simp at hb;simp[hb]
 frame:=λ_ _ _ st hk=>⟨st.1.at λo e=>hk I (by simp) o e,let ⟨o,h1,h2⟩:=st.2;⟨o,hk d (by simp) o h1,h2⟩⟩
 item:=λi s Q E hi st hQ=>Yz st.1 st.2 hi λh' hit' hs'=>hQ _ h' s.toks ⟨_,bJ hi,rfl⟩ ⟨hit',let ⟨o,h1,h2⟩:=st.2;⟨o,hs'.extBut d o hne h1,h2⟩⟩ λb o hb e=>hs'.extBut b o (λh=>hb (by simp[h])) e
 done:=λs Q E st hQ=>FR hh st.1 st.2 λh' he'=>hQ h' s.toks λb o hb e=>he' b o (λh=>hb (by simp[h])) e
 self:=λ_ _ _ _ st hQ=>wpAny_pyIter_keyiter st.1 hQ
def FE(lo:(d==fN)=false):PySem.W.KdlSrc prog w "dict" d d es.size (λi v=>∃e,es[i]?=some e/\v=e.key) (λh=>RawD h d es ep) where
 type:=λ_ hm=>hm.ty
 there:=λ_ hm=>let ⟨_,h1,_⟩:=hm;⟨aP h1,aP h1⟩
 keep:=λ_ _ hm hk=>let ⟨o,h1,h2⟩:=hm;⟨o,hk d (.inl rfl) o h1,h2⟩
 notList:=by decide
 notTuple:=by decide
 hint:=λ_ _ _ _ hm hq=>PySem.W.kdl_hint_dict hm.ty hq
 iter:=λ_ _ hh hm=>⟨_,_,(λ_ _ hq=>Y0 lo hm hq),Uw hh _ (let ⟨_,h1,_⟩:=hm;bH (aP h1)),⟨⟨_,aT _ rfl,rfl,rfl⟩,let ⟨o,h1,h2⟩:=hm;⟨o,aC _ h1,h2⟩⟩⟩
end
def gT(G H:Hp):Hp:=λb=>match H b with
 |some (.tup vs)=>some (.tup vs)
 |_=>G b
def Ab(h:H b=some (.tup vs)):gT G H b=some (.tup vs):=by unfold gT;rw[h]
def Iu(h:∀vs,H b≠some (.tup vs)):gT G H b=G b:=by
 unfold gT;split
 ·rename_i vs e;exact absurd e (h vs)
 ·rfl
def z9(sg:Same G H):Ext G H (gT G H) H:=by
 refine⟨λb u q=>?_,Same.refl H,λb u q=>?_,λb u q g z=>?_⟩
 ·have:=sg b u q
  by_cases c:∃vs,u=.tup vs
  ·obtain⟨vs,rfl⟩:=c;exact Ab this
  ·rw[Iu λvs e=>c ⟨vs,by rw[this]at e;cases e;rfl⟩];exact q
 ·by_cases c:∃vs,H b=some (.tup vs)
  ·obtain⟨vs,e⟩:=c;rw[Ab e]at q;rw[e];exact q
  ·rw[Iu λvs e=>c ⟨vs,e⟩]at q;exact sg b u q
 ·rw[Iu λvs e=>by rw[q]at e;cases e;cases z];exact g
def Vs{K:KA}{G:Hp}(k:gi):Den K G (kD k) (kV k):=by cases k<;>exact rfl
theorem Qc{K:KA}{G:Hp}:∀ks:List gi,DenL K G (ks.map kD) (ks.map kV)
 |[]=>rfl
 |k::r=>⟨_,_,rfl,Vs k,Qc r⟩
def Vt{K:KA}{G H:Hp}{k:NK}{v:V}(h:nkAt H k v):Den K (gT G H) (HD k) v:=by
 cases k with
 |inl k=>rw[show v=kV k from h];exact Vs k
 |inr ks=>obtain⟨b,rfl,q⟩:=h;exact⟨b,_,rfl,Ab q,Qc ks⟩
theorem Kn{K:KA}{G H:Hp}:∀{ks:bf}{vs:List V},NkL H ks vs->DenL K (gT G H) (ks.map HD) vs
 |[],_,h=>h
 |_::_,_,⟨v,t,e,h1,h2⟩=>⟨v,t,e,Vt h1,Kn h2⟩
def Vu{K:KA}{G H:Hp}{k:bf}{b:Addr}(h:TkAt H k b):Den K (gT G H) (kT k) (.ref b):=by
 obtain⟨vs,h1,h2⟩:=h;exact⟨b,vs,rfl,Ab h1,Kn h2⟩
theorem Il{K:KA}{G H:Hp}:∀{es:List (bf×V)}{xs:List (bf×Addr×aH)},KT H es xs->DenL K (gT G H) (es.map λp=>kT p.1) (xs.map λq=>V.ref q.2.1)/\Vals (xs.map λq=>V.ref q.2.1) (xs.map λq=>bX q.2.1)
 |_,_,.nil=>⟨rfl,.nil⟩
 |_,_,.cons h t=>⟨⟨_,_,rfl,Vu h.2.1,(Il (K:=K) (G:=G) t).1⟩,.cons rfl (Il (K:=K) (G:=G) t).2⟩
theorem Gg{K:KA}{G:Hp}:∀{kvs:List (D×D)}{es:List (bf×V)},DenT K G kvs es->kvs.map (·.1)=es.map λp=>kT p.1
 |[],_,h=>by rw[show _=[]from h];rfl
 |(_,_)::_,_,⟨k,v,r,h1,h2,_,h3⟩=>by rw[h1,aG,aG,Gg h3,h2]
def MG(X:Cx):List V->Hp->VK->Prop:=λxs H Q=>(∃a vs G ds ds',xs=[.ref a]/\SqL X.K H a vs/\Same G H/\DenL (kx X) G ds vs/\gx ds=some ds'/\∀p vs',H p=none->DenL (kx X) G ds' vs'->Q (.ref p) (upd H p (.lst vs')))\/
 ∃a es G ds',xs=[.ref a]/\H a=some (.dT es)/\Same G H/\gx (es.map λp=>kT p.1)=some ds'/\∀p vs',H p=none->DenL (kx X) (gT G H) ds' vs'->Q (.ref p) (upd H p (.lst vs'))
def Nl(hu:X.A.units+5<eD)(hc:X.calm=true):CallR X (.builtin "sorted") (MG X):=by
 intro pins s U H xs us Q I r q;rcases q with ⟨a,vs,G,ds,ds',rfl,sq,sg,dl,e,q⟩|⟨a,es,G,ds',rfl,ha,sg,e,q⟩
 ·obtain⟨u,rfl,ru⟩:=mj r;cases ru;obtain⟨its,rv,pl,_⟩:=I.list sq;have h64:=(Ez e).1;have n1:its.length=vs.length:=rv.length.symm;have n2:vs.length=ds.length:=dl.length.symm;have zl:its.length<=aM:=by rw[eU];lia
  refine E1 hu I sg rv dl e (λQ' E' hq=>collect_list pl.isList (hq _ _ λb o e=>?_) zl) q;rw[Heap.get?_update_ne _ _ _ _ (bH (aP e))];exact aC _ e
 ·obtain⟨u,rfl,ru⟩:=mj r;cases ru;obtain⟨z,hd,xs,rel,o,dt,ep,h1,h2,h3,h4,_⟩:=HN I.hok ha;obtain⟨dl,rv⟩:=Il (K:=kx X) (G:=G) rel;have hz:dt.size=xs.length:=by have:=congrArg iU h4;simpa using this
  have zl:dt.size<=aM:=by rw[hz,<-kQ rel];exact z
  refine E1 (G:=gT G H) hu I (z9 sg).gh rv dl e (λQ' E' hq=>?_) q;refine PySem.W.kdu_collect (A:=X.A.in1) (FE (es:=dt) (ep:=ep) hd) (I.ok.hd hc) ⟨o,h1,h2,h3⟩ zl λh' tk acc hk hacc=>?_;have ew:acc.toList=xs.map λq=>bX q.2.1:=by
   refine iC λi=>?_
   by_cases hi:i<acc.size
   ·have hi':acc.toList[i]?=some acc[i]:=by rw[bR];exact bJ hi
    obtain⟨e,e1,e2⟩:=hacc.2 i acc[i] (bJ hi);have e3:dt.toList[i]?=some e:=by rw[bR];exact e1
    rw[h4,bN]at e3;rw[hi',bN,e2];cases ex:xs[i]? with
    |none=>rw[ex]at e3;cases e3
    |some q=>rw[ex]at e3;cases e3;rfl
   ·rw[dC (by rw[bB];lia),dC (by rw[aF,<-hz,<-hacc.1];lia)]
  rw[ew];exact hq h' tk hk
def T6(hu:X.A.units+5<eD)(hc:X.calm=true)(hg:Gl X "sorted")(hm:X.mg "sorted"=none)(ha:jq X B E e g)(he:bF [e] X.env=(false,eval e X.env)::bF [] X.env):gj X B E (.Call (.Name "sorted" p) [e] [] pos) (g1 oh g):=
 PE.imp (n9 (Nl hu hc) hg hm PyProof.Rows.boot_sorted (fc ha ip he) (by decide) (by decide) he rfl) λU H Q q=>JR (λG H x dx d sg ax ed Q q=>by
  unfold oh at ed;split at ed
  ·rename_i ds;cases e:gx ds with
   |none=>rw[e]at ed;cases ed
   |some ds'=>
    rw[e]at ed;cases ed;obtain⟨l,vs,rfl,sq,dl⟩:=ax.lst sg;exact .inl ⟨l,vs,G,ds,ds',rfl,sq,sg,dl,e,λp vs' hp d'=>q _ (upd G p (.lst vs')) _ (Ext.new sg _ hp) (uh sg hp d')⟩
  ·rename_i kvs;cases e:gx (kvs.map (·.1))with
   |none=>rw[e]at ed;cases ed
   |some ds'=>
    rw[e]at ed;cases ed;obtain⟨l,es,rfl,h1,dl⟩:=Arg.dctT sg ax;rw[Gg dl]at e;exact .inr ⟨l,es,G,ds',rfl,h1,sg,e,λp vs' hp d'=>q _ (upd (gT G H) p (.lst vs')) _ ((z9 sg).trans (Ext.new (z9 sg).gh _ hp)) (uh (z9 sg).gh hp d')⟩
  ·cases ed) q
end
end Pu
end
section
namespace Pu
open PySem PySem.Spec PyProof.Rows L2
def Dr(h1:K7 d=some k)(h2:j9 ds=some r):j9 (d::ds)=some (k::r):=by
 unfold j9;rw[h1,h2]
def Dv(h1:N9 d=some k)(h2:ko ds=some r):ko (d::ds)=some (k::r):=by
 unfold ko;rw[h1,h2]
def Ds{ds ds2:List D}(p:ds.Perm ds2):∀{kz:List (List Int)},j9 ds=some kz->∃kz2,j9 ds2=some kz2/\(kz2.zip ds2).Perm (kz.zip ds):=by
 induction p with
 |nil=>intro kz h;exact⟨kz,h,iT _⟩
 |cons x p ih=>
  intro kz h;obtain⟨k,r,h1,h2,rfl⟩:=nr h;obtain⟨r2,q1,q2⟩:=ih h2;exact⟨k::r2,Dr h1 q1,q2.cons _⟩
 |swap x y l=>
  intro kz h;obtain⟨k,r,h1,h2,rfl⟩:=nr h;obtain⟨k2,r2,h3,h4,rfl⟩:=nr h2;exact⟨k2::k::r2,Dr h3 (Dr h1 h4),lO _ _ _⟩
 |trans p1 p2 ih1 ih2=>
  intro kz h;obtain⟨k1,q1,q2⟩:=ih1 h;obtain⟨k2,q3,q4⟩:=ih2 q1;exact⟨k2,q3,q4.trans q2⟩
def Oa{ds ds2:List D}(p:ds.Perm ds2):∀{kz:List (List Int)},ko ds=some kz->∃kz2,ko ds2=some kz2/\(kz2.zip ds2).Perm (kz.zip ds):=by
 induction p with
 |nil=>intro kz h;exact⟨kz,h,iT _⟩
 |cons x p ih=>
  intro kz h;obtain⟨k,r,h1,h2,rfl⟩:=nt h;obtain⟨r2,q1,q2⟩:=ih h2;exact⟨k::r2,Dv h1 q1,q2.cons _⟩
 |swap x y l=>
  intro kz h;obtain⟨k,r,h1,h2,rfl⟩:=nt h;obtain⟨k2,r2,h3,h4,rfl⟩:=nt h2;exact⟨k2::k::r2,Dv h3 (Dv h1 h4),lO _ _ _⟩
 |trans p1 p2 ih1 ih2=>
  intro kz h;obtain⟨k1,q1,q2⟩:=ih1 h;obtain⟨k2,q3,q4⟩:=ih2 q1;exact⟨k2,q3,q4.trans q2⟩
def O9{l l2:List (List Int×D)}(p:l2.Perm l)(nd:(l.map (·.1)).Nodup):yz l2=yz l:=by
 have nd2:(l2.map (·.1)).Nodup:=(p.map _).nodup_iff.mpr nd;exact List.Perm.eq_of_pairwise (le:=λa b:List Int×D=>a.1<b.1) (λa b _ _ h1 h2=>absurd (mE h1 h2) (kE _)) (y6 nd2) (y6 nd) ((j3 _).trans (p.trans (j3 _).symm))
def K8{ds ds2:List D}(p:ds.Perm ds2){kz:List (List Int)}(h:i5 ds=some (b,kz)):∃b2 kz2,i5 ds2=some (b2,kz2)/\(kz2.zip ds2).Perm (kz.zip ds):=by
 unfold i5 at h⊢;cases e:j9 ds with
 |some k=>
  rw[e]at h;cases h;obtain⟨k2,q1,q2⟩:=Ds p e;exact⟨0,k2,by rw[q1],q2⟩
 |none=>
  rw[e]at h;cases e2:j9 ds2 with
  |some k2=>
   obtain⟨k3,q1,_⟩:=Ds p.symm e2;rw[e]at q1;cases q1
  |none=>
   cases e3:ko ds with
   |none=>rw[e3]at h;cases h
   |some k=>
    rw[e3]at h;cases h;obtain⟨k2,q1,q2⟩:=Oa p e3;exact⟨2,k2,by rw[q1];rfl,q2⟩
def O7{ds ds2 ds':List D}(p:ds.Perm ds2)(h:gx ds=some ds'):gx ds2=some ds':=by
 have pl:=p.length_eq;obtain⟨h64,hh⟩:=Ez h;rcases hh with ⟨h2,rfl⟩|⟨h2,b,kz,hk,nd,rfl⟩
 ·have:ds2=ds':=by
   match ds',ds2,h2,p with
   |[],l,_,p=>exact List.Perm.nil_eq p|>.symm
   |[x],l,_,p=>exact(List.singleton_perm.mp p).symm▸rfl
  rw[this];exact h
 ·obtain⟨b2,kz2,q1,q2⟩:=K8 p hk;have lz:=xf hk;have lz2:=xf q1;have n1:((kz.zip ds).map (·.1)).Nodup:=by rw[oK (by lia)];exact nd
  have n2:kz2.Nodup:=by
   have:=(q2.map (·.1)).nodup_iff.mpr n1;rw[oK (by lia)]at this;exact this
  unfold gx;rw[aK (by lia),aJ (by lia),q1];dsimp only;rw[aJ n2,O9 q2 n1]
end Pu
end
section
namespace ST
open PySem PySem.SetTable
def J9(mask:Nat)(p:Probe):Probe:=if p.more>0 then{p with j:=p.j+1,more:=p.more - 1}else
 {p with j:=(leap mask p.i p.perturb).1,more:=runEnd mask (leap mask p.i p.perturb).1 - (leap mask p.i p.perturb).1,i:=(leap mask p.i p.perturb).1,perturb:=(leap mask p.i p.perturb).2}
def it(mask:Nat):Nat->Probe->Probe
 |0,p=>p
 |n+1,p=>it mask n (J9 mask p)
theorem Iy{mask:Nat}:∀(m n:Nat)(p:Probe),it mask (m+n) p=it mask n (it mask m p)
 |0,n,p=>by rw[lQ];rfl
 |m+1,n,p=>by
  rw[show m+1+n=(m+n)+1 by lia];exact Iy m n (J9 mask p)
def U3(mask:Nat)(h:Int):Probe:={j:=bits h % (mask+1),more:=runEnd mask (bits h % (mask+1)) - bits h % (mask+1),i:=bits h % (mask+1),perturb:=bits h,dummy:=none}
structure Val(mask:Nat)(p:Probe):Prop where
 more:p.more<=9
 i:p.i<=mask
 pt:p.perturb<2 ^ 64
 dum:p.dummy=none
 j:p.j+p.more<=mask
def An{mask i:Nat}(h:i<=mask):i<=runEnd mask i/\runEnd mask i<=mask/\runEnd mask i - i<=9:=by
 unfold runEnd;split<;>lia
def AJ(h:Int):bits h<2 ^ 64:=by
 unfold bits;have h1:=pA h (show(2 ^ 64:Int)≠0 by decide);have h2:=nD h (show(0:Int)<2 ^ 64 by decide)
 lia
def Co(mask:Nat)(h:Int):Val mask (U3 mask h):=by
 have e:bits h % (mask+1)<=mask:=Nat.le_of_lt_succ (Nat.mod_lt _ (Nat.succ_pos _));obtain⟨h1,h2,h3⟩:=An e;exact⟨h3,e,AJ h,rfl,by show bits h % (mask+1)+(runEnd mask (bits h % (mask+1)) - bits h % (mask+1))<=mask;lia⟩
def Bd(mask:Nat)(p:Probe):Nat:=(p.i * 5+1+p.perturb / 32) % (mask+1)
def yk(mask:Nat)(p:Probe):Probe:={p with j:=Bd mask p,more:=runEnd mask (Bd mask p) - Bd mask p,i:=Bd mask p,perturb:=p.perturb / 32}
def ze{mask:Nat}{p:Probe}(v:Val mask p):Val mask (yk mask p):=by
 have e:Bd mask p<=mask:=Nat.le_of_lt_succ (Nat.mod_lt _ (Nat.succ_pos _));obtain⟨h1,h2,h3⟩:=An e;exact⟨h3,e,Nat.lt_of_le_of_lt (Nat.div_le_self _ _) v.pt,v.dum,by show Bd mask p+(runEnd mask (Bd mask p) - Bd mask p)<=mask;lia⟩
def GI{mask:Nat}{p:Probe}(v:Val mask p):Val mask (J9 mask p):=by
 unfold J9;split
 ·exact⟨by have:=v.more;show p.more - 1<=9;lia,v.i,v.pt,v.dum,by have:=v.j;show p.j+1+(p.more - 1)<=mask;lia⟩
 ·exact ze v
theorem Pt{mask:Nat}:∀(n:Nat){p:Probe},Val mask p->Val mask (it mask n p)
 |0,_,v=>v
 |n+1,_,v=>Pt n (GI v)
theorem Iz{mask:Nat}:∀(k:Nat)(p:Probe),p.more=k->it mask (k+1) p=yk mask p
 |0,p,h=>by
  show J9 mask p=_;unfold J9;rw[aK (by lia)];rfl
 |k+1,p,h=>by
  show it mask (k+1) (J9 mask p)=_;have e:J9 mask p={p with j:=p.j+1,more:=p.more - 1}:=by unfold J9;rw[aJ (by lia)]
  rw[Iz k (J9 mask p) (by rw[e];show p.more - 1=k;lia),e];rfl
def Ln(mask:Nat):Nat->Probe->Probe
 |0,p=>p
 |n+1,p=>Ln mask n (yk mask p)
theorem Wq{mask:Nat}:∀(k:Nat){p:Probe},Val mask p->∃m,m<=10 * k/\it mask m p=Ln mask k p
 |0,p,v=>⟨0,by lia,rfl⟩
 |k+1,p,v=>by
  obtain⟨m,h1,h2⟩:=Wq k (ze v);have:=v.more;exact⟨p.more+1+m,by lia,by rw[Iy,Iz _ p rfl,h2];rfl⟩
theorem yo{mask:Nat}:∀(m n:Nat)(p:Probe),Ln mask (m+n) p=Ln mask n (Ln mask m p)
 |0,n,p=>by rw[lQ];rfl
 |m+1,n,p=>by
  rw[show m+1+n=(m+n)+1 by lia];exact yo m n (yk mask p)
theorem J4{mask:Nat}:∀(n:Nat){p:Probe},Val mask p->Val mask (Ln mask n p)
 |0,_,v=>v
 |n+1,_,v=>J4 n (ze v)
theorem Of{mask:Nat}:∀(k:Nat)(p:Probe),(Ln mask k p).perturb=p.perturb / 32 ^ k
 |0,p=>by rw[Nat.pow_zero,Nat.div_one];rfl
 |k+1,p=>by
  show(Ln mask k (yk mask p)).perturb=_;rw[Of k,Nat.pow_succ,Nat.mul_comm,<-Nat.div_div_eq_div_mul];rfl
def lc(mask:Nat):Nat->Nat->Nat
 |0,i=>i
 |n+1,i=>lc mask n ((i * 5+1) % (mask+1))
theorem Jb{mask:Nat}:∀(m n i:Nat),lc mask (m+n) i=lc mask n (lc mask m i)
 |0,n,p=>by rw[lQ];rfl
 |m+1,n,p=>by
  rw[show m+1+n=(m+n)+1 by lia];exact Jb m n _
theorem Oe{mask:Nat}:∀(k:Nat){p:Probe},p.perturb=0->p.j=p.i->(Ln mask k p).i=lc mask k p.i/\(Ln mask k p).j=lc mask k p.i
 |0,p,h,e=>⟨rfl,e⟩
 |k+1,p,h,e=>by
  have:=Oe (mask:=mask) k (p:=yk mask p) (by show p.perturb / 32=0;rw[h]) rfl;have e2:(yk mask p).i=(p.i * 5+1) % (mask+1):=by show(p.i * 5+1+p.perturb / 32) % (mask+1)=_;rw[h]
  rw[e2]at this;exact this
def Xs(mask:Nat):Nat->Nat->List Nat
 |0,_=>[]
 |n+1,i=>i::Xs mask n ((i * 5+1) % (mask+1))
theorem Jh{mask j:Nat}:∀{n i:Nat},j∈Xs mask n i->∃k,k<n/\lc mask k i=j
 |0,i,h=>by cases h
 |n+1,i,h=>by
  rcases List.mem_cons.mp h with h|h
  ·exact⟨0,by lia,h.symm⟩
  ·obtain⟨k,h1,h2⟩:=Jh h;exact⟨k+1,by lia,h2⟩
def Mk(mask:Nat):Prop:=mask=7\/mask=31\/mask=127
def DN{mask:Nat}(hm:Mk mask):(∀j,j<=mask->j∈Xs mask (mask+1) 0)/\lc mask (mask+1) 0=0:=by
 have g:∀m,((bT (m+1)).all λj=>(Xs m (m+1) 0).contains j)=true->∀j,j<=m->j∈Xs m (m+1) 0:=λm h j hj=>by
  have:=List.all_eq_true.mp h j (List.mem_range.mpr (by lia));simpa using this
 rcases hm with rfl|rfl|rfl
 ·exact⟨g _ (by decide+kernel),by decide+kernel⟩
 ·exact⟨g _ (by decide+kernel),by decide+kernel⟩
 ·exact⟨g _ (by decide+kernel),by decide+kernel⟩
def Lg{mask i j:Nat}(hm:Mk mask)(hi:i<=mask)(hj:j<=mask):∃k,k<=mask/\lc mask k i=j:=by
 obtain⟨h1,h2⟩:=DN hm;obtain⟨a,a1,a2⟩:=Jh (h1 i hi);obtain⟨b,b1,b2⟩:=Jh (h1 j hj)
 by_cases h:a<=b
 ·exact⟨b - a,by lia,by rw[<-a2,<-Jb,show a+(b - a)=b by lia,b2]⟩
 ·exact⟨mask+1 - a+b,by lia,by rw[<-a2,<-Jb,show a+(mask+1 - a+b)=(mask+1)+b by lia,Jb,h2,b2]⟩
def QY{mask j:Nat}{p:Probe}(hm:Mk mask)(v:Val mask p)(hj:j<=mask):∃m,m<10 * turns mask/\(it mask m p).j=j:=by
 have v13:=J4 13 v;have p0:(Ln mask 13 p).perturb=0:=by
  rw[Of];exact Nat.div_eq_of_lt (bS v.pt (by decide))
 have e13:(Ln mask 13 p).j=(Ln mask 13 p).i:=by
  rw[show(13:Nat)=12+1 from rfl,yo];rfl
 obtain⟨k,k1,k2⟩:=Lg hm v13.i hj;obtain⟨m,m1,m2⟩:=Wq (13+k) v;refine⟨m,by unfold turns;lia,?_⟩;rw[m2,yo,(Oe k p0 e13).2,k2]
abbrev Ris(xs:Array Nat):Prop:=xs.toList.Pairwise (· <·)
def Ris.lt{xs:Array Nat}(h:Ris xs){a b x y:Nat}(hab:a<b)(hx:xs[a]?=some x)(hy:xs[b]?=some y):x<y:=by
 rw[<-bR]at hx hy;obtain⟨a1,rfl⟩:=List.getElem?_eq_some_iff.mp hx;obtain⟨b1,rfl⟩:=List.getElem?_eq_some_iff.mp hy;exact List.pairwise_iff_getElem.mp h a b a1 b1 hab
def Ris.inj(h:Ris xs){a b x:Nat}(hx:xs[a]?=some x)(hy:xs[b]?=some x):a=b:=by
 rcases jR a b with z|z|z
 ·exact absurd (h.lt z hx hy) (cO _)
 ·exact z
 ·exact absurd (h.lt z hy hx) (cO _)
theorem C4{xs:Array Nat}(h:Ris xs):∀(fuel lo hi:Nat),hi<=xs.size->lo<=hi->hi - lo<=fuel->(∀k x,k<lo->xs[k]?=some x->x<j)->(∀k x,hi<=k->xs[k]?=some x->j<=x)->
  below.go xs j fuel lo hi<=xs.size/\(∀k x,k<below.go xs j fuel lo hi->xs[k]?=some x->x<j)/\(∀k x,below.go xs j fuel lo hi<=k->xs[k]?=some x->j<=x)
 |0,lo,hi,h1,h2,h3,a,b=>by
  have:lo=hi:=by lia
  subst this;exact⟨h1,a,b⟩
 |fuel+1,lo,hi,h1,h2,h3,a,b=>by
  unfold below.go
  by_cases hl:lo<hi
  ·rw[aJ hl];dsimp only;have hm:(lo+hi) / 2<xs.size:=by lia
   have eg:xs[(lo+hi) / 2]?=some (xs.getD ((lo+hi) / 2) j):=by
    rw[bJ hm];simp[nB,hm]
   by_cases hc:xs.getD ((lo+hi) / 2) j<j
   ·rw[aJ hc];refine C4 h fuel _ hi h1 (by lia) (by lia) (λk x hk hx=>?_) b;rcases gH k ((lo+hi) / 2)with z|z
    ·exact lJ (h.lt z hx eg) hc
    ·have:k=(lo+hi) / 2:=by lia
     subst this;rw[eg]at hx;cases hx;exact hc
   ·rw[aK hc];refine C4 h fuel lo _ (by lia) (by lia) (by lia) a (λk x hk hx=>?_);rcases gH ((lo+hi) / 2) k with z|z
    ·have:=h.lt z eg hx;lia
    ·have:k=(lo+hi) / 2:=by lia
     subst this;rw[eg]at hx;cases hx;lia
  ·rw[aK hl];have:lo=hi:=by lia
   subst this;exact⟨h1,a,b⟩
def xy{xs:Array Nat}(h:Ris xs):below xs j<=xs.size/\(∀k x,k<below xs j->xs[k]?=some x->x<j)/\(∀k x,below xs j<=k->xs[k]?=some x->j<=x):=
 C4 h xs.size 0 xs.size (aR _) (by lia) (by lia) (λk x hk=>by lia) λk x hk hx=>by
  obtain⟨z,_⟩:=Array.getElem?_eq_some_iff.mp hx
  lia
def Ve(h:Ris xs)(e:xs[i]?=some j):below xs j=i:=by
 obtain⟨_,h2,h3⟩:=xy (j:=j) h;rcases jR i (below xs j)with z|z|z
 ·exact absurd (h2 i j z e) (cO _)
 ·exact z.symm
 ·have hz:below xs j<xs.size:=by
   obtain⟨q,_⟩:=Array.getElem?_eq_some_iff.mp e
   lia
  have e2:xs[below xs j]?=some xs[below xs j]:=bJ hz;have:=h3 _ _ (aR _) e2;have:=h.lt z e2 e
  lia
def Hk{t:dN}(h:Ris t.place)(e:t.place[i]?=some j):t.slot j=.live i:=by
 unfold slot;rw[Ve h e];dsimp only;rw[aJ (by rw[e];exact beq_self_eq_true _)]
def O6{t:dN}(hd:t.dummies=#[])(e:j∉t.place.toList):t.slot j=.empty:=by
 unfold slot;dsimp only;rw[aK (λz=>e (by
  have z:t.place[below t.place j]?=some j:=by simpa using z
  rw[<-bR]at z;exact bY z)),hd]
 rfl
def O5{t:dN}(h:Ris t.place)(hd:t.dummies=#[])(j:Nat):(∃i,t.place[i]?=some j/\t.slot j=.live i)\/(j∉t.place.toList/\t.slot j=.empty):=by
 by_cases e:j∈t.place.toList
 ·obtain⟨i,hi⟩:=fF e;rw[bR]at hi;exact .inl ⟨i,hi,Hk h hi⟩
 ·exact .inr ⟨e,O6 hd e⟩
theorem Ot:∀(n:Nat)(l:List Nat),l.length<n->∃j,j<n/\j∉l
 |0,l,h=>by lia
 |n+1,l,h=>by
  by_cases e:n∈l
  ·obtain⟨j,h1,h2⟩:=Ot n (l.erase n) (by rw[List.length_erase_of_mem e];have:=List.length_pos_of_mem e;lia);exact⟨j,by lia,λz=>h2 ((List.mem_erase_of_ne (by lia)).mpr z)⟩
  ·exact⟨n,by lia,e⟩
theorem Qr{t:dN}(hr:Ris t.place)(hd:t.dummies=#[]):∀(fuel:Nat)(p:Probe),p.dummy=none->(∃m,m<fuel/\(it t.mask m p).j∉t.place.toList)->
  ∃m,m<fuel/\(∀m',m'<m->∃i,t.place[i]?=some (it t.mask m' p).j/\hashAt i≠h)/\
   (((it t.mask m p).j∉t.place.toList/\probe.go t hashAt h fuel p=some (.empty (it t.mask m p).j none))\/
    ∃i,t.place[i]?=some (it t.mask m p).j/\hashAt i=h/\probe.go t hashAt h fuel p=some (.candidate (it t.mask m p).j i (it t.mask (m+1) p)))
 |0,p,_,⟨m,h1,_⟩=>by lia
 |fuel+1,p,hp,⟨m0,h1,h2⟩=>by
  rcases O5 hr hd p.j with ⟨i,e1,e2⟩|⟨e1,e2⟩
  ·by_cases hh:hashAt i=h
   ·refine⟨0,by lia,λm' z=>by lia,.inr ⟨i,e1,hh,?_⟩⟩;unfold probe.go;rw[e2];dsimp only;rw[aJ (by rw[hh];exact beq_self_eq_true _)];rfl
   ·have hm0:m0≠0:=λz=>by
     subst z;rw[<-bR]at e1;exact h2 (bY e1)
    obtain⟨k,rfl⟩:∃k,m0=k+1:=⟨m0 - 1,by lia⟩;have hp':(J9 t.mask p).dummy=none:=by unfold J9;split<;>exact hp
    obtain⟨m,q1,q2,q3⟩:=Qr (hashAt:=hashAt) (h:=h) hr hd fuel (J9 t.mask p) hp' ⟨k,by lia,h2⟩;have eg:probe.go t hashAt h (fuel+1) p=probe.go t hashAt h fuel (J9 t.mask p):=by
     rw[probe.go,e2];dsimp only;rw[aK (by simpa using hh)];rfl
    refine⟨m+1,by lia,λm' z=>?_,?_⟩
    ·cases m' with
     |zero=>exact⟨i,e1,hh⟩
     |succ m'=>exact q2 m' (by lia)
    ·rw[eg];exact q3
  ·refine⟨0,by lia,λm' z=>by lia,.inl ⟨e1,?_⟩⟩;unfold probe.go;rw[e2];dsimp only;rw[hp];rfl
def dq(mask:Nat)(h:Int)(m:Nat):Nat:=(it mask m (U3 mask h)).j
def Re{mask m:Nat}{h:Int}:dq mask h m<=mask:=by
 have:=(Pt m (Co mask h)).j;unfold dq
 lia
structure TOk(t:dN)(hs:List Int):Prop where
 mask:Mk t.mask
 dum:t.dummies=#[]
 len:t.place.size=hs.length
 rise:Ris t.place
 le:∀j∈t.place.toList,j<=t.mask
 room:t.place.size<=t.mask
 reach:∀q∈t.place.toList.zip hs,∃m,dq t.mask q.2 m=q.1/\∀m',m'<m->dq t.mask q.2 m'∈t.place.toList
def TOk.fits{t:dN}{hs:List Int}(T:TOk t hs):t.place.size=hs.length/\t.fill<=t.mask:=by
 refine⟨T.len,?_⟩;unfold fill;rw[T.dum];exact T.room
def TOk.empty{t:dN}(T:TOk t hs)(p:Probe)(v:Val t.mask p):∃m,m<10 * turns t.mask/\(it t.mask m p).j∉t.place.toList:=by
 obtain⟨j,h1,h2⟩:=Ot (t.mask+1) t.place.toList (by have:=T.room;rw[bB];lia);obtain⟨m,m1,m2⟩:=QY T.mask v (j:=j) (by lia);exact⟨m,m1,by rw[m2];exact h2⟩
theorem TOk.probe{t:dN}(T:TOk t hs)(hashAt:Nat->Int)(h:Int)(m:Nat):∃m1,m<=m1/\(∀m',m<=m'->m'<m1->∃i,t.place[i]?=some (dq t.mask h m')/\hashAt i≠h)/\
   ((dq t.mask h m1∉t.place.toList/\t.probe hashAt h (it t.mask m (U3 t.mask h))=some (.empty (dq t.mask h m1) none))\/
   ∃i,t.place[i]?=some (dq t.mask h m1)/\hashAt i=h/\t.probe hashAt h (it t.mask m (U3 t.mask h))=some (.candidate (dq t.mask h m1) i (it t.mask (m1+1) (U3 t.mask h)))):=by
 have v:=Pt m (Co t.mask h);obtain⟨k,k1,k2,k3⟩:=Qr (hashAt:=hashAt) (h:=h) T.rise T.dum (10 * turns t.mask) _ v.dum (T.empty _ v);have e:∀n,(it t.mask n (it t.mask m (U3 t.mask h)))=it t.mask (m+n) (U3 t.mask h):=λn=>(Iy m n _).symm;refine⟨m+k,by lia,λm' a b=>?_,?_⟩
 ·have:=k2 (m' - m) (by lia);rw[e,show m+(m' - m)=m' by lia]at this;exact this
 ·rw[e,e]at k3;exact k3
def TOk.first{t:dN}(T:TOk t hs)(h:Int):∃M,M<10 * turns t.mask/\dq t.mask h M∉t.place.toList:=T.empty _ (Co t.mask h)
def Zw{mask:Nat}(h:Mk mask):10 * turns mask<=1420:=by
 unfold turns;rcases h with rfl|rfl|rfl<;>decide
def fy(xs:Array α)(p:Nat)(x:α):(insertAt xs p x).toList=xs.toList.take p++x::xs.toList.drop p:=by
 unfold insertAt;simp[List.extract_eq_drop_take];exact List.take_of_length_le (by simp)
def Ce{l:List α}:y∈l.take p++x::l.drop p↔y=x\/y∈l:=by
 rw[mQ,cR];constructor
 ·rintro (h|h|h)
  ·exact .inr (List.mem_of_mem_take h)
  ·exact .inl h
  ·exact .inr (iD h)
 ·rintro (h|h)
  ·exact .inr (.inl h)
  ·rw[<-lX p l,mQ]at h;rcases h with h|h
   ·exact .inl h
   ·exact .inr (.inr h)
def GD{l:List α}{r:List β}(hl:l.length=r.length):(l.take p++x::l.drop p).zip (r.take p++y::r.drop p)=(l.zip r).take p++(x,y)::(l.zip r).drop p:=by
 rw[List.zip_append (by rw[fC,fC,hl]),nA];unfold List.zip;rw[List.take_zipWith,List.drop_zipWith]
theorem TOk.put{t:dN}(T:TOk t hs)(hn:dq t.mask h m∉t.place.toList)(hb:∀m',m'<m->dq t.mask h m'∈t.place.toList)(room:t.place.size+1<=t.mask):
  ∃p,p<=hs.length/\(t.put (dq t.mask h m)).2=p/\TOk (t.put (dq t.mask h m)).1 (hs.take p++h::hs.drop p)/\(t.put (dq t.mask h m)).1={t with place:=insertAt t.place p (dq t.mask h m),dummies:=#[]}:=by
 obtain⟨b1,b2,b3⟩:=xy (j:=dq t.mask h m) T.rise;have hd:has t.dummies (dq t.mask h m)=false:=by rw[T.dum];rfl
 have ep:(t.put (dq t.mask h m)).1={t with place:=insertAt t.place (below t.place (dq t.mask h m)) (dq t.mask h m),dummies:=#[]}:=by
  unfold SetTable.put;dsimp only;rw[hd,T.dum];rfl
 refine⟨below t.place (dq t.mask h m),by rw[<-T.len];exact b1,rfl,?_,ep⟩;rw[ep];generalize hp:below t.place (dq t.mask h m)=p at *;have hl:t.place.toList.length=hs.length:=by rw[bB];exact T.len
 have lt:∀x∈t.place.toList.take p,x<dq t.mask h m:=λx hx=>by
  obtain⟨i,hi⟩:=fF hx;rw[List.getElem?_take]at hi;split at hi
  ·rename_i z;rw[bR]at hi;exact b2 i x z hi
  ·cases hi
 have gt:∀x∈t.place.toList.drop p,dq t.mask h m<x:=λx hx=>by
  obtain⟨i,hi⟩:=fF hx;rw[List.getElem?_drop,bR]at hi;have h1:=b3 _ x (iR p i) hi;have h2:x≠dq t.mask h m:=λz=>by
   subst z;rw[<-bR]at hi;exact hn (bY hi)
  lia
 have rs:(t.place.toList.take p).Pairwise (· <·)/\(t.place.toList.drop p).Pairwise (· <·):=by
  have:=T.rise;unfold Ris at this;rw[<-lX p t.place.toList,List.pairwise_append]at this;exact⟨this.1,this.2.1⟩
 refine⟨T.mask,rfl,?_,?_,?_,?_,?_⟩
 ·show(insertAt t.place p _).size=_;rw[<-bB,fy];simp only[aU,fC,aL,dR,hl]
 ·show((insertAt t.place p (dq t.mask h m)).toList).Pairwise (· <·);rw[fy,List.pairwise_append];refine⟨rs.1,List.pairwise_cons.mpr ⟨gt,rs.2⟩,λx hx y hy=>?_⟩;rcases List.mem_cons.mp hy with rfl|hy
  ·exact lt x hx
  ·exact lJ (lt x hx) (gt y hy)
 ·show∀j∈(insertAt t.place p (dq t.mask h m)).toList,j<=t.mask;rw[fy];intro j hj;rcases Ce.mp hj with rfl|hj
  ·exact Re
  ·exact T.le j hj
 ·show(insertAt t.place p _).size<=t.mask;rw[<-bB,fy];simp only[aU,fC,aL,dR,bB]
  lia
 ·show∀q∈(insertAt t.place p (dq t.mask h m)).toList.zip _,∃m',dq t.mask q.2 m'=q.1/\∀k,k<m'->dq t.mask q.2 k∈(insertAt t.place p (dq t.mask h m)).toList;rw[fy,GD hl];intro q hq;rcases Ce.mp hq with rfl|hq
  ·exact⟨m,rfl,λk hk=>Ce.mpr (.inr (hb k hk))⟩
  ·obtain⟨m',h1,h2⟩:=T.reach q hq;exact⟨m',h1,λk hk=>Ce.mpr (.inr (h2 k hk))⟩
def Um(fg mv:Nat)(led:Bool):TOk (.fresh fg mv led) []:=⟨.inl rfl,rfl,rfl,nP,(λj hj=>absurd (show j∈([]:List Nat)from hj) (by simp)),cT _,(λq hq=>absurd (show q∈([]:List (Nat×Int))from hq) (by simp))⟩
structure Own(mask:Nat)(owner:Array (Option Nat))(L:List Nat):Prop where
 size:owner.size=mask+1
 nd:L.Nodup
 le:∀j∈L,j<=mask
 at_:∀(j i:Nat),owner[j]?=some (some i)↔L[i]?=some j
theorem Own.none{mask:Nat}{owner:Array (Option Nat)}{L:List Nat}(O:Own mask owner L){j:Nat}(hj:j<=mask):(owner.getD j (some 0)).isNone=true↔j∉L:=by
 have hz:j<owner.size:=by rw[O.size];lia
 have eg:owner.getD j (some 0)=owner[j]:=by simp[nB,hz]
 rw[eg];cases e:owner[j]with
 |none=>
  refine⟨λ_ z=>?_,λ_=>rfl⟩;obtain⟨i,hi⟩:=fF z;have:=(O.at_ j i).mpr hi;rw[bJ hz,e]at this;cases this
 |some i=>
  refine⟨λz=>(by cases z),λz=>absurd (bY ((O.at_ j i).mp ?_)) z⟩;rw[bJ hz,e]
theorem N7{mask:Nat}:∀(k:Nat)(p:Probe),k<=p.more->(it mask k p).j=p.j+k
 |0,p,_=>rfl
 |k+1,p,h=>by
  show(it mask k (J9 mask p)).j=_;have e:J9 mask p={p with j:=p.j+1,more:=p.more - 1}:=by unfold J9;rw[aJ (by lia)]
  rw[e,N7 k _ (by show k<=p.more - 1;lia)];show p.j+1+k=p.j+(k+1)
  lia
def N0:(∀k,(bT n).find? f=some k->k<n/\f k=true/\∀k',k'<k->f k'=false)/\((bT n).find? f=none->∀k,k<n->f k=false):=by
 refine⟨λk h=>?_,λh k hk=>?_⟩
 ·have h1:=List.mem_range.mp (List.mem_of_find?_eq_some h);have h2:=List.find?_some h;refine⟨h1,h2,λk' hk'=>?_⟩;obtain⟨_,as,bs,e1,e2⟩:=List.find?_eq_some_iff_append.mp h;have la:as.length=k:=by
   have e3:(bT n)[as.length]?=some k:=by rw[e1];simp
   rw[kM (by
    have:=congrArg iU e1;simp at this
    lia)]at e3
   exact bM e3
  have:k'∈as:=by
   have e3:(bT n)[k']?=some k':=kM (by lia);rw[e1,cW (by lia)]at e3;exact bY e3
  simpa using e2 k' this
 ·have:=List.find?_eq_none.mp h k (List.mem_range.mpr hk);simpa using this
theorem Qo{mask:Nat}{owner:Array (Option Nat)}{L:List Nat}(O:Own mask owner L):∀(fuel:Nat)(p:Probe),Val mask p->p.j=p.i->p.more=runEnd mask p.i - p.i->(∃k,k<fuel/\(Ln mask k p).j∉L)->
  ∃m,layClean.free mask owner fuel p.i p.perturb=some (it mask m p).j/\(it mask m p).j∉L/\∀m',m'<m->(it mask m' p).j∈L
 |0,p,_,_,_,⟨k,h,_⟩=>by lia
 |fuel+1,p,v,ej,em,⟨k,hk,hf⟩=>by
  obtain⟨r1,r2,r3⟩:=An v.i;obtain⟨f1,f2⟩:=N0 (n:=runEnd mask p.i+1 - p.i) (f:=λk=>(owner.getD (p.i+k) (some 0)).isNone);unfold layClean.free;cases e:(bT (runEnd mask p.i+1 - p.i)).find? λk=>(owner.getD (p.i+k) (some 0)).isNone with
  |some q=>
   obtain⟨q1,q2,q3⟩:=f1 q e;dsimp only;have eq:∀x,x<=q->(it mask x p).j=p.i+x:=λx hx=>by rw[N7 x p (by lia),ej]
   refine⟨q,by rw[eq q (aR _)],?_,λm' hm=>?_⟩
   ·rw[eq q (aR _)];exact(O.none (by lia)).mp q2
   ·rw[eq m' (by lia)];refine gV λz=>?_;have:=(O.none (j:=p.i+m') (by lia)).mpr z;have:=q3 m' hm
    simp_all
  |none=>
   dsimp only;have all:=f2 e;have ne:k≠0:=λz=>by
    subst z;refine hf ?_;refine gV λz=>?_;have z':p.i+0∉L:=by rw[Nat.add_zero,<-ej];exact z
    have a:=all 0 (by lia);have b:=(O.none (j:=p.i+0) (by lia)).mpr z'
    simp_all
   obtain⟨k',rfl⟩:∃k',k=k'+1:=⟨k - 1,by lia⟩;obtain⟨m,m1,m2,m3⟩:=Qo O fuel (yk mask p) (ze v) rfl rfl ⟨k',by lia,hf⟩;have el:∀x,it mask (p.more+1+x) p=it mask x (yk mask p):=λx=>by rw[Iy,Iz _ p rfl]
   refine⟨p.more+1+m,?_,?_,λm' hm=>?_⟩
   ·rw[el];exact m1
   ·rw[el];exact m2
   ·rcases gH m' (p.more+1)with z|z
    ·rw[N7 m' p (by lia),ej];refine gV λy=>?_;have a:=all m' (by lia);have b:=(O.none (j:=p.i+m') (by lia)).mpr y
     simp_all
    ·have:=m3 (m' - (p.more+1)) (by lia);rw[<-el,show p.more+1+(m' - (p.more+1))=m' by lia]at this;exact this
def BS{mask:Nat}{owner:Array (Option Nat)}{L:List Nat}(hm:Mk mask)(O:Own mask owner L)(hl:L.length<=mask)(h:Int):
  ∃m,layClean.free mask owner (turns mask) (bits h % (mask+1)) (bits h)=some (dq mask h m)/\dq mask h m∉L/\∀m',m'<m->dq mask h m'∈L:=by
 obtain⟨j,j1,j2⟩:=Ot (mask+1) L (by lia);have v:=Co mask h;have v13:=J4 13 v;have p0:(Ln mask 13 (U3 mask h)).perturb=0:=by
  rw[Of];exact Nat.div_eq_of_lt (bS v.pt (by decide))
 have e13:(Ln mask 13 (U3 mask h)).j=(Ln mask 13 (U3 mask h)).i:=by
  rw[show(13:Nat)=12+1 from rfl,yo];rfl
 obtain⟨k,k1,k2⟩:=Lg hm v13.i (show j<=mask by lia);exact Qo O (turns mask) (U3 mask h) v rfl rfl ⟨13+k,by unfold turns;lia,by rw[yo,(Oe k p0 e13).2,k2];exact j2⟩
def Own.snoc{mask:Nat}{owner:Array (Option Nat)}{L:List Nat}(O:Own mask owner L){j:Nat}(hj:j<=mask)(hn:j∉L):Own mask (owner.setIfInBounds j (some L.length)) (L++[j]):=by
 have hz:j<owner.size:=by rw[O.size];lia
 refine⟨by rw[Array.size_setIfInBounds];exact O.size,?_,?_,λx i=>?_⟩
 ·rw[List.nodup_append];exact⟨O.nd,by simp,λa ha b hb=>by rw[List.mem_singleton.mp hb];exact λz=>hn (z▸ha)⟩
 ·intro x hx;rcases List.mem_append.mp hx with hx|hx
  ·exact O.le x hx
  ·rw[List.mem_singleton.mp hx];exact hj
 ·rw[Array.getElem?_setIfInBounds]
  by_cases e:j=x
  ·subst e;rw[aJ rfl,aJ hz];constructor
   ·intro z;cases z;simp
   ·intro z;rcases jR i L.length with y|y|y
    ·rw[cW y]at z;exact absurd (bY z) hn
    ·rw[y]
    ·rw[dA (by lia)]at z;have:=(List.getElem?_eq_some_iff.mp z).1;simp at this
     lia
  ·rw[aK e,O.at_];rcases gH i L.length with y|y
   ·rw[cW y]
   ·rw[dA y,dC y];constructor
    ·intro z;cases z
    ·intro z;have:=List.mem_singleton.mp (bY z);exact absurd this.symm e
theorem Ld{mask:Nat}(hm:Mk mask):∀(hs:List Int)(owner:Array (Option Nat))(L:List Nat)(pre:List Int),Own mask owner L->L.length=pre.length->L.length+hs.length<=mask->
  (∀q∈L.zip pre,∃m,dq mask q.2 m=q.1/\∀m',m'<m->dq mask q.2 m'∈L)->
  ∃owner' L',hs.foldl (init:=some (owner,L.length)) (λacc h=>do
    let (owner,k) <-acc;let j <-layClean.free mask owner (turns mask) (bits h % (mask+1)) (bits h)
    pure (owner.setIfInBounds j (some k),k+1))=some (owner',L'.length)/\Own mask owner' L'/\L'.length=(pre++hs).length/\
   ∀q∈L'.zip (pre++hs),∃m,dq mask q.2 m=q.1/\∀m',m'<m->dq mask q.2 m'∈L'
 |[],owner,L,pre,O,hl,_,r=>⟨owner,L,rfl,O,by rw[eM];exact hl,by rw[eM];exact r⟩
 |h::hs,owner,L,pre,O,hl,hr,r=>by
  rw[aL]at hr;obtain⟨m,m1,m2,m3⟩:=BS hm O (by lia) h;have O':=O.snoc Re m2;have lL:(L++[dq mask h m]).length=L.length+1:=by simp
  obtain⟨owner',L',h1,h2,h3,h4⟩:=Ld hm hs _ _ (pre++[h]) O' (by simp[hl]) (by rw[lL];lia) (λq hq=>by
   rw[List.zip_append hl,nA,List.zip_nil_left]at hq;rcases List.mem_append.mp hq with hq|hq
   ·obtain⟨k,k1,k2⟩:=r q hq;exact⟨k,k1,λm' z=>jW _ (k2 m' z)⟩
   ·rw[List.mem_singleton.mp hq];exact⟨m,rfl,λm' z=>jW _ (m3 m' z)⟩)
  refine⟨owner',L',?_,h2,by rw[h3];simp,by
   rw[lM]at h4;exact h4⟩
  rw[pC];rw[lL]at h1;rw[<-h1]
  congr 1
  show(layClean.free mask owner (turns mask) (bits h % (mask+1)) (bits h)).bind _=_;rw[m1];rfl
def XW(mask:Nat):Own mask (Array.replicate (mask+1) none) []:=by
 refine⟨by simp,fI,λj hj=>(by cases hj),λj i=>?_⟩;constructor
 ·intro h;rw[Array.getElem?_replicate]at h;split at h<;>cases h
 ·intro h;cases h
def Tj{mask:Nat}(hm:Mk mask)(hs:Array Int)(hl:hs.size<=mask):∃owner L,layClean mask hs=some owner/\Own mask owner L/\L.length=hs.size/\
  ∀q∈L.zip hs.toList,∃m,dq mask q.2 m=q.1/\∀m',m'<m->dq mask q.2 m'∈L:=by
 obtain⟨owner,L,h1,h2,h3,h4⟩:=Ld hm hs.toList _ [] [] (XW mask) rfl (by simpa using hl) (λq hq=>by cases hq);refine⟨owner,L,?_,h2,by simpa using h3,by simpa using h4⟩;unfold layClean;rw[<-Array.foldl_toList];exact congrArg (Option.map (·.1)) h1
def nu(mask:Nat)(owner:Array (Option Nat)):List (Nat×Nat):=(bT (mask+1)).filterMap λj=>(owner.getD j none).map (j,·)
def ny{mask:Nat}{owner:Array (Option Nat)}{L:List Nat}(O:Own mask owner L){q:Nat×Nat}:q∈nu mask owner↔L[q.2]?=some q.1:=by
 have e:∀j,j<mask+1->owner[j]?=some (owner.getD j none):=λj hj=>by
  have hz:j<owner.size:=by rw[O.size];exact hj
  rw[bJ hz];simp[nB,hz]
 unfold nu;rw[List.mem_filterMap];constructor
 ·rintro ⟨j,hj,h⟩
  have hj:=List.mem_range.mp hj;cases eo:owner.getD j none with
  |none=>rw[eo]at h;cases h
  |some i=>
   rw[eo]at h;cases h;exact(O.at_ j i).mp (by rw[e j hj,eo])
 ·intro h;have hj:q.1<mask+1:=Nat.lt_succ_of_le (O.le _ (bY h));refine⟨q.1,List.mem_range.mpr hj,?_⟩;have:=(O.at_ q.1 q.2).mpr h;rw[e _ hj]at this;rw[bM this];rfl
def Q3(mask:Nat)(owner:Array (Option Nat)):(nu mask owner).Pairwise λa b=>a.1<b.1:=by
 unfold nu;rw[List.pairwise_filterMap];refine lR ?_ List.pairwise_lt_range;intro a b hab x hx y hy;cases ea:owner.getD a none with
 |none=>rw[ea]at hx;cases hx
 |some i=>
  cases eb:owner.getD b none with
  |none=>rw[eb]at hy;cases hy
  |some k=>
   rw[ea]at hx;rw[eb]at hy;cases hx;cases hy;exact hab
def CS{mask:Nat}(hm:Mk mask)(hs:Array Int)(hl:hs.size<=mask)(fg mv:Nat)(led plain:Bool):∃t' order,laid mask fg mv led plain hs=some (t',order)/\t'.mask=mask/\t'.led=led/\t'.plain=plain/\
  order.toList.Perm (bT hs.size)/\TOk t' (order.toList.map λi=>hs.toList.getD i 0):=by
 obtain⟨owner,L,h1,O,h3,h4⟩:=Tj hm hs hl;refine⟨_,_,by unfold laid;rw[h1];rfl,rfl,rfl,rfl,?_,?_⟩
 ·show((nu mask owner).map (·.2)).Perm _;refine(List.perm_ext_iff_of_nodup ?_ List.nodup_range).mpr λi=>?_
  ·rw[List.Nodup,jP];refine List.Pairwise.imp_of_mem ?_ (Q3 mask owner);intro a b ha hb hab z;have z1:=(ny O).mp ha;have z2:=(ny O).mp hb;rw[z,z2]at z1;have:=bM z1
   lia
  ·rw[oS,List.mem_range];constructor
   ·rintro ⟨q,hq,rfl⟩
    have:=(List.getElem?_eq_some_iff.mp ((ny O).mp hq)).1
    lia
   ·intro hi;have hz:i<L.length:=by lia
    exact⟨(L[i],i),(ny O).mpr (bP hz),rfl⟩
 ·have pl:∀j,j∈(nu mask owner).map (·.1)↔j∈L:=λj=>by
   rw[oS];constructor
   ·rintro ⟨q,hq,rfl⟩;exact bY ((ny O).mp hq)
   ·intro h;obtain⟨i,hi⟩:=fF h;exact⟨(j,i),(ny O).mpr hi,rfl⟩
  have pw:((nu mask owner).map (·.1)).Pairwise (· <·):=by rw[jP];exact Q3 mask owner
  have pe:((nu mask owner).map (·.1)).Perm L:=(List.perm_ext_iff_of_nodup (lR (λh=>bH h) pw) O.nd).mpr pl;have ln:(nu mask owner).length=hs.size:=by have:=pe.length_eq;rw[aF]at this;lia
  refine⟨hm,rfl,?_,pw,λj hj=>O.le j ((pl j).mp hj),?_,?_⟩
  ·show((nu mask owner).map (·.1)).toArray.size=(((nu mask owner).map (·.2)).map λi=>hs.toList.getD i 0).length;simp
  ·show((nu mask owner).map (·.1)).toArray.size<=mask;simp
   lia
  ·show∀q∈((nu mask owner).map (·.1)).zip (((nu mask owner).map (·.2)).map λi=>hs.toList.getD i 0),∃m,dq mask q.2 m=q.1/\∀m',m'<m->dq mask q.2 m'∈(nu mask owner).map (·.1);intro q hq;rw[bV,List.zip_map',oS]at hq;obtain⟨x,hx,rfl⟩:=hq;have hx:=(ny O).mp hx;have hz:=(List.getElem?_eq_some_iff.mp hx).1;have hh:hs.toList[x.2]?=some (hs.toList.getD x.2 0):=by
    rw[cB,bP (by rw[bB];lia)];rfl
   obtain⟨m,m1,m2⟩:=h4 (x.1,hs.toList.getD x.2 0) (by
    have:(L.zip hs.toList)[x.2]?=some (x.1,hs.toList.getD x.2 0):=by rw[List.getElem?_zip_eq_some];exact⟨hx,hh⟩
    exact bY this)
   exact⟨m,m1,λm' z=>(pl _).mpr (m2 m' z)⟩
structure SOk(t:dN)(hs:List Int):Prop extends TOk t hs where
 loose:t.place.size * 5<t.mask * 3
def Uj(fg mv:Nat)(led:Bool):SOk (.fresh fg mv led) []:=⟨Um fg mv led,by show 0 * 5<7 * 3;decide⟩
def SOk.room1{t:dN}(S:SOk t hs):t.place.size+1<=t.mask:=by
 have:=S.loose;rcases S.mask with e|e|e<;>rw[e]at this⊢<;>lia
def Bp{t:dN}(hd:t.dummies=#[]):t.tooFull=decide (t.place.size * 5>=t.mask * 3):=by
 unfold tooFull fill;rw[hd];rfl
def SOk.relay{t:dN}{hs:Array Int}(T:TOk t hs.toList)(loose:(t.place.size - 1) * 5<t.mask * 3)(full:t.tooFull=true)(few:hs.size<=76):
  sizeAbove (grown hs.size)<=aM/\∃t' order,t.relaid hs (grown hs.size)=some (t',order)/\t'.led=t.led/\t'.plain=t.plain/\order.toList.Perm (bT hs.size)/\SOk t' (order.toList.map λi=>hs.toList.getD i 0):=by
 rw[Bp T.dum]at full;have full:=of_decide_eq_true full;have ln:=T.len;rw[bB]at ln;have key:∀n mask',sizeAbove (grown n) - 1=mask'->n=hs.size->Mk mask'->n * 5<mask' * 3->n<=mask'->sizeAbove (grown n)<=aM->sizeAbove (grown hs.size)<=aM/\∃t' order,t.relaid hs (grown hs.size)=some (t',order)/\t'.led=t.led/\t'.plain=t.plain/\order.toList.Perm (bT hs.size)/\SOk t' (order.toList.map λi=>hs.toList.getD i 0):=by
  intro n mask' e en mk lo le sl;subst en;refine⟨sl,?_⟩;obtain⟨t',order,h1,h2,h3,h4,h5,h6⟩:=CS mk hs le t.finger (t.movedTo mask') t.led t.plain;refine⟨t',order,?_,h3,h4,h5,h6,?_⟩
  ·unfold relaid;rw[e];exact h1
  ·rw[h6.len,h2];rw[aF,h5.length_eq,eL];exact lo
 rcases T.mask with e|e|e
 ·rw[e]at full loose;exact key 5 31 (by decide) (by lia) (.inr (.inl rfl)) (by decide) (by decide) (by decide)
 ·rw[e]at full loose;exact key 19 127 (by decide) (by lia) (.inr (.inr rfl)) (by decide) (by decide) (by decide)
 ·rw[e]at full loose
  lia
end ST
end
section
namespace L2
open PySem PySem.Spec PyProof.Rows
def LJ:gi->Bool
 |.inl _=>true
 |.inr _=>false
def XU:NK->Bool
 |.inl k=>LJ k
 |.inr ks=>ks.all LJ
def OL(k:bf):Bool:=k.all XU
section
variable{prog:bQ}{w:cF}{A:cS}{E:aH->aN->Prop}{s:aN}
def Qt(n:Nat)(h:(bb prog w).is k v=true):lG n v=pure (LJ k):=by
 rcases cj h with ⟨i,t,rfl,rfl⟩|⟨x,t,rfl,rfl⟩
 ·rw[hashByValue_scannable n rfl];rfl
 ·rw[hashByValue_scannable n rfl];rfl
def BN{ks:List gi}(hk:iV (bb prog w) s.heap ks a)(h:Q (ks.all LJ) s):aQ (bI prog w) A (lG (n+1) (.ref a)) Q E s:=by
 have hT:=hk.typeIs;obtain⟨o,items,n',ho,_,hd,hi⟩:=hk;unfold lG;refine aA (gX hT F.slot_tuple_hash.lookup ?_);show aQ _ _ (mY (.ref a)>>=_) _ _ s;refine aA (cL ho hd ?_);refine aA ?_;show aQ _ _ (forIn items _ _) _ _ s;rw[<-fM];refine eP _ (λrest r s'=>r.1=none/\s'=s/\∃left,ItemsAre (bb prog w) left rest/\left.all LJ=ks.all LJ) _ ?_ ?_ _ _ ⟨rfl,rfl,ks,hi,rfl⟩
 ·rintro v rest r s' ⟨hr,rfl,left,hl,ea⟩
  cases hl with
  |@cons k v' ks' vs' hk ht=>
   rw[Qt n hk];refine aA (aB ?_);rw[cP]at ea;cases e:LJ k with
   |true=>
    simp only[dD,Bool.false_eq_true,if_false];rw[e,gN]at ea;exact aB ⟨rfl,rfl,ks',ht,ea⟩
   |false=>
    simp only[iN,if_true];rw[e,Bool.false_and]at ea;refine aB (aB ?_);rw[<-ea]at h;exact h
 ·rintro ⟨r1,r2⟩ s' ⟨hr,rfl,left,hl,ea⟩
  simp only at hr;subst hr;cases hl;refine aB ?_;rw[<-ea]at h;exact h
def JH(hk:cm prog w s.heap ks a)(h:Q (OL ks) s):aQ (bI prog w) A (lG 8 (.ref a)) Q E s:=by
 obtain⟨o,items,n',ho,hc,hd,hi⟩:=hk;have hT:s.TypeIs (.ref a) "tuple":=⟨o,ho,hc⟩;unfold lG;refine aA (gX hT F.slot_tuple_hash.lookup ?_);show aQ _ _ (mY (.ref a)>>=_) _ _ s;refine aA (cL ho hd ?_);refine aA ?_;show aQ _ _ (forIn items _ _) _ _ s;rw[<-fM];refine eP _ (λrest r s'=>r.1=none/\s'=s/\∃left,NItems prog w s.heap left rest/\left.all XU=OL ks) _ ?_ ?_ _ _ ⟨rfl,rfl,ks,hi,rfl⟩
 ·rintro v rest r s' ⟨hr,rfl,left,hl,ea⟩
  cases left with
  |nil=>cases (show v::rest=[]from hl)
  |cons k ks'=>
   obtain⟨v',t,e,h1,hl'⟩:=hl;cases e;refine aA ?_;have go:aQ (bI prog w) A (lG 7 v) (λb s''=>b=XU k/\s''=s') E s':=by
    cases k with
    |inl k=>rw[Qt _ h1];exact aB ⟨rfl,rfl⟩
    |inr ys=>obtain⟨b,rfl,q⟩:=h1;exact BN q ⟨rfl,rfl⟩
   refine cK go (λb s'' ⟨e1,e2⟩=>?_) λ_ _ q=>q;subst e2;rw[cP,<-e1]at ea;cases b with
   |true=>
    simp only[dD,Bool.false_eq_true,if_false];rw[gN]at ea;exact aB ⟨rfl,rfl,ks',hl',ea⟩
   |false=>
    simp only[iN,if_true];rw[Bool.false_and]at ea;refine aB (aB ?_);rw[<-ea]at h;exact h
 ·rintro ⟨r1,r2⟩ s' ⟨hr,rfl,left,hl,ea⟩
  simp only at hr;subst hr;cases left with
  |cons k ks'=>obtain⟨v',t,e,_⟩:=hl;cases e
  |nil=>
   refine aB ?_;rw[<-ea]at h;exact h
def Ra(n:Nat)(h:(bb prog w).is k v=true):iE n v=pure false:=by
 rcases cj h with ⟨i,t,rfl,rfl⟩|⟨x,t,rfl,rfl⟩<;>(cases n<;>rfl)
def DX(hk:iV (bb prog w) s.heap ks a)(h:Q false s):aQ (bI prog w) A (iE (n+1) (.ref a)) Q E s:=by
 have hT:=hk.typeIs;obtain⟨o,items,n',ho,_,hd,hi⟩:=hk;unfold iE;refine aA (hV hT ?_);show aQ _ _ ((if("tuple"=="tuple")=true then pure true else isSubtype (.type "tuple") (.type "tuple"))>>=_) _ _ s;rw[aJ (beq_self_eq_true _)];refine aA (aB ?_);simp only[dD,Bool.false_eq_true,if_false];refine aA (cL ho hd ?_);dsimp only;refine aA ?_;show aQ _ _ (forIn items _ _) _ _ s;rw[<-fM];refine eP _ (λrest r s'=>r.1=none/\s'=s/\∃left,ItemsAre (bb prog w) left rest) _ ?_ ?_ _ _ ⟨rfl,rfl,ks,hi⟩
 ·rintro v rest r s' ⟨hr,rfl,left,hl⟩
  cases hl with
  |@cons k v' ks' vs' hk ht=>
   rw[Ra n hk];refine aA (aB ?_);simp only[Bool.false_eq_true,if_false];exact aB ⟨rfl,rfl,ks',ht⟩
 ·rintro ⟨r1,r2⟩ s' ⟨hr,rfl,left,hl⟩
  simp only at hr;subst hr;exact aB h
def Xm(hk:cm prog w s.heap ks a)(h:Q false s):aQ (bI prog w) A (iE 8 (.ref a)) Q E s:=by
 obtain⟨o,items,n',ho,hc,hd,hi⟩:=hk;have hT:s.TypeIs (.ref a) "tuple":=⟨o,ho,hc⟩;unfold iE;refine aA (hV hT ?_);show aQ _ _ ((if("tuple"=="tuple")=true then pure true else isSubtype (.type "tuple") (.type "tuple"))>>=_) _ _ s;rw[aJ (beq_self_eq_true _)];refine aA (aB ?_);simp only[dD,Bool.false_eq_true,if_false];refine aA (cL ho hd ?_);dsimp only;refine aA ?_;show aQ _ _ (forIn items _ _) _ _ s;rw[<-fM];refine eP _ (λrest r s'=>r.1=none/\s'=s/\∃left,NItems prog w s.heap left rest) _ ?_ ?_ _ _ ⟨rfl,rfl,ks,hi⟩
 ·rintro v rest r s' ⟨hr,rfl,left,hl⟩
  cases left with
  |nil=>cases (show v::rest=[]from hl)
  |cons k ks'=>
   obtain⟨v',t,e,h1,hl'⟩:=hl;cases e;refine aA ?_;have go:aQ (bI prog w) A (iE 7 v) (λb s''=>b=false/\s''=s') E s':=by
    cases k with
    |inl k=>rw[Ra _ h1];exact aB ⟨rfl,rfl⟩
    |inr ys=>obtain⟨b,rfl,q⟩:=h1;exact DX q ⟨rfl,rfl⟩
   refine cK go (λb s'' ⟨e1,e2⟩=>?_) λ_ _ q=>q;subst e1 e2;simp only[Bool.false_eq_true,if_false];exact aB ⟨rfl,rfl,ks',hl'⟩
 ·rintro ⟨r1,r2⟩ s' ⟨hr,rfl,left,hl⟩
  simp only at hr;subst hr;exact aB h
def NC(hk:cm prog w s.heap k b)(hy:∀y∈ys,∃c k',y=.ref c/\cm prog w s.heap k' c)(h:Q false s):aQ (bI prog w) A (searchCouldBeSeen (.ref b) ys) Q E s:=by
 unfold searchCouldBeSeen;refine aA ?_;refine eP _ (λrest r s'=>r.1=none/\s'=s/\∀y∈rest,∃c k',y=.ref c/\cm prog w s.heap k' c) _ ?_ ?_ _ _ ⟨rfl,rfl,hy⟩
 ·rintro v rest r s' ⟨hr,rfl,hl⟩
  obtain⟨c,k',rfl,hc⟩:=hl v aI;have tl:∀y∈rest,∃c k',y=.ref c/\cm prog w s'.heap k' c:=λy hy=>hl y (aE _ hy);dsimp only;show aQ _ _ (if((b==c)||(false && false))=true then _ else _) _ _ _;split
  ·exact aB ⟨rfl,rfl,tl⟩
  ·refine aA (Ek hk ?_);simp only[dD,Bool.false_eq_true,if_false];refine aA (Ek hc ?_);simp only[dD,Bool.false_eq_true,if_false];refine aA (Xm hk ?_);simp only[Bool.false_eq_true,if_false];refine aA (Xm hc ?_);simp only[Bool.false_eq_true,if_false];exact aB ⟨rfl,rfl,tl⟩
 ·rintro ⟨r1,r2⟩ s' ⟨hr,rfl,hl⟩
  simp only at hr;subst hr;exact aB h
def UY(prog:bQ)(w:cF)(h:Heap)(e:Int×aH)(k:bf):Prop:=e.1=(a8 prog w).hash k/\∃b,e.2=.ref b/\cm prog w h k b
def ElsK(prog:bQ)(w:cF)(h:Heap):List (Int×aH)->List bf->Prop
 |[],ks=>ks=[]
 |e::es,ks=>∃k r,ks=k::r/\UY prog w h e k/\ElsK prog w h es r
theorem ElsK.len:∀{es:List (Int×aH)}{ks:List bf},ElsK prog w h es ks->es.length=ks.length
 |[],ks,e=>by rw[show ks=[]from e];rfl
 |_::_,_,⟨k,r,e,_,t⟩=>by rw[e,aL,aL,t.len]
theorem ElsK.get:∀{es:List (Int×aH)}{ks:List bf}{i:Nat}{e:Int×aH},ElsK prog w h es ks->es[i]?=some e->∃k,ks[i]?=some k/\UY prog w h e k
 |[],_,_,_,_,q=>by simp at q
 |_::_,_,0,e,⟨k,r,e1,h1,t⟩,q=>by subst e1;simp at q;subst q;exact⟨k,rfl,h1⟩
 |_::_,_,i+1,e,⟨k,r,e1,h1,t⟩,q=>by
  subst e1;obtain⟨k',q1,q2⟩:=ElsK.get (i:=i) t (by simpa using q);exact⟨k',by simpa using q1,q2⟩
structure SetK(prog:bQ)(w:cF)(h:Heap)(a:Addr)(ks:List bf)(es:Array (Int×aH))(ep:Nat)(t:dN):Prop where
 at_:h.get? a=some {cls:=.type "set",dict:=none,data:=.set es ep t}
 tab:ST.SOk t (es.toList.map (·.1))
 els:ElsK prog w h es.toList ks
 nd:ks.Nodup
theorem SetK.fits{es:Array (Int×aH)}{t:dN}(S:SetK prog w h a ks es ep t):t.fits es.size=true:=by
 obtain⟨h1,h2⟩:=S.tab.toTOk.fits;unfold nY;rw[aO];exact⟨by rw[h1];simp,decide_eq_true h2⟩
def Yf{es:Array (Int×aH)}{f:Nat->Int}{t:dN}{h:Int}{p:SetTable.Probe}(hf:∀i,f i=(es[i]?.map (·.1)).getD 0):t.probe f h p=t.probe (λi=>(es[i]?.map (·.1)).getD 0) h p:=by
 rw[show f=λi=>(es[i]?.map (·.1)).getD 0 from funext hf]
def Xk{t:dN}(h:ST.Mk t.mask):t.gaveWay=false:=by
 unfold SetTable.gaveWay;rcases h with e|e|e<;>rw[e]<;>rfl
end
section
variable{prog:bQ}{w:cF}{A:cS}{E:aH->aN->Prop}{s:aN}{a b:Addr}{ks:List bf}{es:Array (Int×aH)}{ep:Nat}{t:dN}{k:bf}
def M8(t:dN)(ks:List bf)(k:bf)(h:Int)(m:Nat):Prop:=∀m',m'<m->∃(i:Nat) (k':bf),t.place[i]?=some (ST.dq t.mask h m')/\ks[i]?=some k'/\k'≠k
def SetK.at_slot(S:SetK prog w s.heap a ks es ep t){i j:Nat}(e:t.place[i]?=some j):∃v k',es[i]?=some v/\ks[i]?=some k'/\UY prog w s.heap v k':=by
 have hi:i<es.size:=by
  have:=(Array.getElem?_eq_some_iff.mp e).1;have l:=S.tab.len;simp at l
  lia
 have e1:es.toList[i]?=some es[i]:=by rw[bR];exact bJ hi
 obtain⟨k',q1,q2⟩:=S.els.get e1;exact⟨es[i],k',by rw[<-bR];exact e1,q1,q2⟩
def Uh(hr:(a8 prog w).room A)(S:SetK prog w s.heap a ks es ep t)(hk:cm prog w s.heap k b){Q:SetFound->aN->Prop}(h1:k∈ks->Q (.there none) s)
  (h2:∀m,ST.dq t.mask ((a8 prog w).hash k) m∉t.place.toList->M8 t ks k ((a8 prog w).hash k) m->Q (.free (ST.dq t.mask ((a8 prog w).hash k) m) false) s)
  (M:Nat) (hM:ST.dq t.mask ((a8 prog w).hash k) M∉t.place.toList):∀(d fuel m:Nat)(stand:Option SetTable.Probe),M - m<d->m<=M->d<=fuel->stand.getD (t.probeStart ((a8 prog w).hash k))=ST.it t.mask m (ST.U3 t.mask ((a8 prog w).hash k))->
   M8 t ks k ((a8 prog w).hash k) m->aQ (bI prog w) A (setSearchFrom a (.ref b) ((a8 prog w).hash k) true fuel stand) Q E s:=by
 generalize hh:(a8 prog w).hash k=hsh at *;intro d;induction d with
 |zero=>
  intro fuel m stand e1
  lia
 |succ d ih=>
  intro fuel m stand e1 e2 e3 e4 ps;obtain⟨fuel,rfl⟩:∃f,fuel=f+1:=⟨fuel - 1,by lia⟩;unfold setSearchFrom;refine aA (dZ S.at_ rfl S.fits ?_);dsimp only;rw[Xk S.tab.mask];simp only[Bool.false_eq_true,if_false];rw[e4,Yf (es:=es)]
  ·obtain⟨m1,q1,q2,q3⟩:=S.tab.toTOk.probe (λi=>(es[i]?.map (·.1)).getD 0) hsh m;have mem:∀{i j:Nat},t.place[i]?=some j->j∈t.place.toList:=λe=>by
    rw[<-bR]at e;exact bY e
   have le:m1<=M:=by
    rcases gH M m1 with z|z
    ·obtain⟨i,z1,_⟩:=q2 M e2 z;exact absurd (mem z1) hM
    ·exact z
   have ps1:M8 t ks k hsh m1:=λm' hm=>by
    rcases gH m' m with z|z
    ·exact ps m' z
    ·obtain⟨i,z1,z2⟩:=q2 m' z hm;obtain⟨v,k',y1,y2,y3,y4⟩:=S.at_slot z1;refine⟨i,k',z1,y2,λz3=>z2 ?_⟩;subst z3;show(es[i]?.map (·.1)).getD 0=hsh;rw[y1];show v.1=hsh;rw[y3,hh]
   rcases q3 with ⟨z1,z2⟩|⟨i,z1,z2,z3⟩
   ·rw[z2];exact aB (h2 m1 z1 ps1)
   ·rw[z3];obtain⟨v,k',y1,y2,y3,c,y4,y5⟩:=S.at_slot z1;obtain⟨vh,vv⟩:=v;dsimp only at y3 y4;subst y4;have lt:m1<M:=by
     rcases gH m1 M with z|z
     ·exact z
     ·have:m1=M:=by lia
      subst this;exact absurd (mem z1) hM
    have sl:=ST.Hk S.tab.rise z1;have sm:t.sameMemory t.moves t.mask=some true:=by unfold SetTable.sameMemory;rw[aJ (beq_self_eq_true _)]
    have ts:∀y∈(es.filter λx=>x.fst==hsh).toList.map (λx=>x.snd),∃c k',y=.ref c/\cm prog w s.heap k' c:=λy hy=>by
     obtain⟨x,hx,rfl⟩:=List.mem_map.mp hy;have hx:x∈es:=(show x∈es/\x.fst=hsh by simpa using hx).1;obtain⟨i,hi⟩:=fF (show x∈es.toList by simpa using hx);obtain⟨k'',_,_,c',e5,e6⟩:=S.els.get hi;exact⟨c',k'',e5,e6⟩
    dsimp only;cases hl:t.led with
    |true=>
     simp only[dD,Bool.false_eq_true,if_false];rw[y1];dsimp only;refine aA (dO ((a8 prog w).eqBool hr y5 hk ?_));refine aA (dZ S.at_ rfl S.fits ?_);dsimp only
     by_cases ek:k'=k
     ·subst ek;simp only[decide_true,Bool.and_self,if_true];exact aB (h1 (bY y2))
     ·simp only[ek,decide_false,kB,Bool.false_eq_true,if_false];rw[sm];simp only[if_true];rw[sl];dsimp only;rw[y1];dsimp only;refine aA (wpAny_isSame_ref_self ?_);simp only[if_true];refine aA (aB ?_);dsimp only;refine ih fuel (m1+1) _ (by lia) (by lia) (by lia) rfl λm' hm=>?_;rcases gH m' m1 with z|z
      ·exact ps1 m' z
      ·have:m'=m1:=by lia
       subst this;exact⟨i,k',z1,y2,ek⟩
    |false=>
     simp only[iN,if_true];refine aA (NC hk ts ?_);simp only[Bool.false_eq_true,if_false];rw[y1];dsimp only;refine aA (dO ((a8 prog w).eqBool hr y5 hk ?_));refine aA (dZ S.at_ rfl S.fits ?_);dsimp only
     by_cases ek:k'=k
     ·subst ek;simp only[decide_true,Bool.and_self,if_true];exact aB (h1 (bY y2))
     ·simp only[ek,decide_false,kB,Bool.false_eq_true,if_false];rw[sm];simp only[if_true];rw[sl];dsimp only;rw[y1];dsimp only;refine aA (wpAny_isSame_ref_self ?_);simp only[if_true];refine aA (aB ?_);dsimp only;refine ih fuel (m1+1) _ (by lia) (by lia) (by lia) rfl λm' hm=>?_;rcases gH m' m1 with z|z
      ·exact ps1 m' z
      ·have:m'=m1:=by lia
       subst this;exact⟨i,k',z1,y2,ek⟩
  ·intro i;rfl
def N4(S:SetK prog w s.heap a ks es ep t){i:Nat}{k:bf}(h:ks[i]?=some k):∃j,t.place[i]?=some j/\(j,(a8 prog w).hash k)∈t.place.toList.zip (es.toList.map (·.1)):=by
 have hi:=(List.getElem?_eq_some_iff.mp h).1;have l1:=S.els.len;have l2:=S.tab.len;rw[aF]at l2;have hp:i<t.place.size:=by lia
 obtain⟨v,k',y1,y2,y3,_⟩:=S.at_slot (i:=i) (bJ hp);rw[h]at y2;cases y2;refine⟨t.place[i],bJ hp,?_⟩;have:(t.place.toList.zip (es.toList.map (·.1)))[i]?=some (t.place[i],(a8 prog w).hash k):=by
  rw[List.getElem?_zip_eq_some];refine⟨by rw[bR];exact bJ hp,?_⟩;rw[bN,bR,y1];show some v.1=_;rw[y3]
 exact bY this
def Y5(hr:(a8 prog w).room A)(S:SetK prog w s.heap a ks es ep t)(hk:cm prog w s.heap k b){Q:SetFound->aN->Prop}(h1:k∈ks->Q (.there none) s)
  (h2:k∉ks->∀m,ST.dq t.mask ((a8 prog w).hash k) m∉t.place.toList->(∀m',m'<m->ST.dq t.mask ((a8 prog w).hash k) m'∈t.place.toList)->Q (.free (ST.dq t.mask ((a8 prog w).hash k) m) false) s):
  aQ (bI prog w) A (setSearch a (.ref b) ((a8 prog w).hash k) true) Q E s:=by
 obtain⟨M,M1,M2⟩:=S.tab.toTOk.first ((a8 prog w).hash k)
 have:=ST.Zw S.tab.mask;refine Uh hr S hk h1 (λm z1 z2=>?_) M M2 100000 100000 0 none (by lia) (by lia) (by lia) rfl (λm' hm=>by lia);have mem:∀{i j:Nat},t.place[i]?=some j->j∈t.place.toList:=λe=>by
  rw[<-bR]at e;exact bY e
 refine h2 (λz=>?_) m z1 λm' hm=>?_
 ·obtain⟨i0,e0⟩:=fF z;obtain⟨j,j1,j2⟩:=N4 S e0;obtain⟨m0,r1,r2⟩:=S.tab.reach _ j2;dsimp only at r1 r2;have lt:m0<m:=by
   rcases jR m0 m with y|y|y
   ·exact y
   ·subst y;rw[r1]at z1;exact absurd (mem j1) z1
   ·exact absurd (r2 m y) z1
  obtain⟨i,k',y1,y2,y3⟩:=z2 m0 lt;rw[r1]at y1;have:=S.tab.rise.inj y1 j1;subst this;rw[e0]at y2;cases y2;exact y3 rfl
 ·obtain⟨i,k',y1,_⟩:=z2 m' hm;exact mem y1
end
section
variable{prog:bQ}{w:cF}{A:cS}{E:aH->aN->Prop}{s:aN}{a b:Addr}{ks:List bf}{es:Array (Int×aH)}{ep:Nat}{t:dN}{k:bf}
def Uo{h h':Heap}{d:Addr}{o:Obj}{es ep tt}(ho:h.get? d=some o)(hd:o.data=.set es ep tt)(hs:cJ d h h'){ks:List gi}{b:Addr}(q:iV (bb prog w) h ks b):iV (bb prog w) h' ks b:=by
 obtain⟨o',items,n,ho',hc,hd',hi⟩:=q;refine⟨o',items,n,(hs.2 _ ?_).trans ho',hc,hd',hi⟩
 rintro rfl
 obtain rfl:=bM (ho'.symm.trans ho);rw[hd]at hd';exact nomatch hd'
def Xi{h h':Heap}{o:Obj}{es ep tt}(ho:h.get? d=some o)(hd:o.data=.set es ep tt)(hs:cJ d h h'):∀{k:NK}{v:aH},B3 prog w h k v->B3 prog w h' k v
 |.inl k,v,e=>e
 |.inr ks,v,⟨b,e,q⟩=>⟨b,e,Uo ho hd hs q⟩
theorem G9{h h':Heap}{o:Obj}{es ep tt}(ho:h.get? d=some o)(hd:o.data=.set es ep tt)(hs:cJ d h h'):∀{ks:bf}{vs:List aH},NItems prog w h ks vs->NItems prog w h' ks vs
 |[],_,e=>e
 |_::_,_,⟨v,t,e,h1,h2⟩=>⟨v,t,e,Xi ho hd hs h1,G9 ho hd hs h2⟩
def Tg{h h':Heap}{d:Addr}{o:Obj}{es ep tt}(ho:h.get? d=some o)(hd:o.data=.set es ep tt)(hs:cJ d h h'){ks:bf}{b:Addr}(q:cm prog w h ks b):cm prog w h' ks b:=by
 obtain⟨o',items,n,ho',hc,hd',hi⟩:=q;refine⟨o',items,n,(hs.2 _ ?_).trans ho',hc,hd',G9 ho hd hs hi⟩
 rintro rfl
 obtain rfl:=bM (ho'.symm.trans ho);rw[hd]at hd';exact nomatch hd'
theorem zy{h h':Heap}{o:Obj}{es ep tt}(ho:h.get? d=some o)(hd:o.data=.set es ep tt)(hs:cJ d h h'):∀{l:List (Int×aH)}{ks:List bf},ElsK prog w h l ks->ElsK prog w h' l ks
 |[],_,e=>e
 |_::_,_,⟨k,r,e,⟨e1,b,e2,e3⟩,h2⟩=>⟨k,r,e,⟨e1,b,e2,Tg ho hd hs e3⟩,zy ho hd hs h2⟩
theorem ElsK.app:∀{l l':List (Int×aH)}{ks ks':List bf},ElsK prog w h l ks->ElsK prog w h l' ks'->ElsK prog w h (l++l') (ks++ks')
 |[],_,ks,_,e,q=>by rw[show ks=[]from e];exact q
 |_::_,_,_,_,⟨k,r,e,h1,h2⟩,q=>by subst e;exact⟨k,r++_,rfl,h1,h2.app q⟩
theorem ElsK.take:∀{l:List (Int×aH)}{ks:List bf}(n:Nat),ElsK prog w h l ks->ElsK prog w h (l.take n) (ks.take n)
 |_,_,0,_=>by simp[ElsK]
 |[],ks,n+1,e=>by rw[show ks=[]from e];simp[ElsK]
 |_::_,_,n+1,⟨k,r,e,h1,h2⟩=>by subst e;exact⟨k,r.take n,rfl,h1,h2.take n⟩
theorem ElsK.drop:∀{l:List (Int×aH)}{ks:List bf}(n:Nat),ElsK prog w h l ks->ElsK prog w h (l.drop n) (ks.drop n)
 |_,_,0,e=>e
 |[],ks,n+1,e=>by rw[show ks=[]from e];simp[ElsK]
 |_::_,_,n+1,⟨k,r,e,h1,h2⟩=>by subst e;exact h2.drop n
theorem ElsK.pick{l:List (Int×aH)}{ks:List bf}(q:ElsK prog w h l ks):∀(order:List Nat),(∀i∈order,i<l.length)->ElsK prog w h (order.map λi=>l.getD i (0,.none)) (order.map λi=>ks.getD i [])
 |[],_=>rfl
 |i::r,hb=>by
  have hi:=hb i aI;have e:l[i]?=some l[i]:=bP hi;obtain⟨k,q1,q2⟩:=q.get e;refine⟨ks.getD i [],r.map _,rfl,?_,q.pick r λj hj=>hb j (aE _ hj)⟩;show UY prog w h (l.getD i (0,bU)) (ks.getD i []);rw[cB,cB,e,q1];exact q2
def Ya{l:List α}:(bT l.length).map (λi=>l.getD i d)=l:=by
 apply iC;intro i;rw[bN];rcases gH i l.length with h|h
 ·rw[kM h,bP h];simp[cB,h]
 ·rw[dC (by simpa using h),dC h];rfl
def xk{l:List α}{order:List Nat}(h:order.Perm (bT l.length)):(order.map λi=>l.getD i d).Perm l:=by
 have:=h.map λi=>l.getD i d;rw[Ya]at this;exact this
theorem V9{l:List α}:∀{order:List Nat},(∀i∈order,i<l.length)->order.filterMap (λi=>l[i]?)=order.map λi=>l.getD i d
 |[],_=>rfl
 |i::r,h=>by
  have hi:=h i aI;rw[dE,bP hi,aG,V9 (d:=d) λj hj=>h j (aE _ hj)];simp[cB,hi]
def FQ{h0:Heap}(S:h0.get? a=some {cls:=.type "set",dict:=none,data:=.set es ep t})(hs0:s.heap=h0)(T:ST.TOk t (es.toList.map (·.1)))(el:ElsK prog w h0 es.toList ks)(nd:ks.Nodup)(loose:(t.place.size - 1) * 5<t.mask * 3)(full:t.tooFull=true)(few:es.size<=76)
  (h:∀h' ks' es' ep' t',cJ a s.heap h'->SetK prog w h' a ks' es' ep' t'->ks'.Perm ks->(∀hh,ElsK prog w hh es.toList ks->ElsK prog w hh es'.toList ks')->t'.plain=t.plain->t'.led=t.led->Q () {s with heap:=h'}):aQ (bI prog w) A (setRelay a (SetTable.grown es.size)) Q E s:=by
 subst hs0;have fits:t.fits es.size=true:=by
  obtain⟨h1,h2⟩:=T.fits;unfold nY;rw[aO];exact⟨by rw[h1];simp,decide_eq_true h2⟩
 have eh:(es.map (·.1)).toList=es.toList.map (·.1):=by simp
 have sh:(es.map (·.1)).size=es.size:=by simp
 obtain⟨r1,t',order,r2,r3,r4,r5,r6⟩:=ST.SOk.relay (t:=t) (hs:=es.map (·.1)) (by rw[eh];exact T) loose full (by rw[sh];exact few);rw[sh]at r1 r2 r5;have ob:∀i∈order.toList,i<es.toList.length:=λi hi=>by
  have:=List.mem_range.mp (r5.mem_iff.mp hi);rw[bB];exact this
 have e2:(order.filterMap (es[·]?)).toList=order.toList.map λi=>es.toList.getD i (0,.none):=by
  rw[Array.toList_filterMap];have:(λ(i:Nat)=>es[i]?)=λ(i:Nat)=>es.toList[i]?:=by funext i;rw[bR]
  rw[this];exact V9 ob
 have sz:(order.filterMap (es[·]?)).size=es.size:=by
  rw[<-bB,e2,aF,r5.length_eq,eL]
 unfold setRelay;refine aA (dZ S rfl fits ?_);dsimp only;rw[aK (Nat.not_lt.mpr r1),r2];refine aA (lF (a:=(order.filterMap (es[·]?),t')) ?_ ?_)
 ·show(if((order.filterMap (es[·]?)).size !=es.size)=true then _ else _)=_;rw[aK (by rw[sz];simp)]
 ·dsimp only;have hz:(order.filterMap (es[·]?)).size<=aM:=by rw[sz,eU];lia
  refine wpAny_storeSet_of S rfl ?_ hz;have sb:=cX s.heap a (kZ (order.filterMap (es[·]?)) t');have g1:(s.heap.update a (kZ (order.filterMap (es[·]?)) t')).get? a=some {cls:=.type "set",dict:=none,data:=.set (order.filterMap (es[·]?)) (ep+1) t'}:=cG (kZ (order.filterMap (es[·]?)) t') S rfl;have ll:=el.len;refine h _ (order.toList.map λi=>ks.getD i []) _ _ _ sb ⟨g1,?_,?_,?_⟩ ?_ (λhh z=>by rw[e2];exact z.pick _ ob) r4 r3
  ·have:(order.filterMap (es[·]?)).toList.map (·.1)=order.toList.map λi=>(es.map (·.1)).toList.getD i 0:=by
    rw[e2,bV];refine eQ λi hi=>?_;have:=ob i hi;rw[eh];show(es.toList.getD i (0,.none)).1=(es.toList.map (·.1)).getD i 0;rw[cB,cB,bN,bP this];rfl
   rw[this];exact r6
  ·rw[e2];exact zy S rfl sb (el.pick _ ob)
  ·have p:=xk (l:=ks) (d:=[]) (order:=order.toList) (by rw[<-ll,bB];exact r5);exact p.nodup_iff.mpr nd
  ·exact xk (by rw[<-ll,bB];exact r5)
def yp{l:List α}:(l.take p++x::l.drop p).Perm (x::l):=by
 have:=List.perm_middle (a:=x) (l₁:=l.take p) (l₂:=l.drop p);rw[lX]at this;exact this
def HY(hr:(a8 prog w).room A)(S:SetK prog w s.heap a ks es ep t)(few:k∉ks->ks.length<76)(hk:cm prog w s.heap k b)
  (h1:k∈ks->Q false s)
  (h2:k∉ks->∀h' ks' es' ep' t',cJ a s.heap h'->SetK prog w h' a ks' es' ep' t'->ks'.Perm (k::ks)->(∀hh,ElsK prog w hh es.toList ks->cm prog w hh k b->ElsK prog w hh es'.toList ks')->t'.plain=(t.plain && OL k)->t'.led=t.led->Q true {s with heap:=h'}):
  aQ (bI prog w) A (setAddHashed a (.ref b) ((a8 prog w).hash k)) Q E s:=by
 unfold setAddHashed setAddHashedIn;refine dO (aA (dZ S.at_ rfl S.fits ?_));dsimp only;have bs:byScan (.ref b) es=false:=rfl;rw[bs];simp only[Bool.false_eq_true,if_false];refine aA (Y5 hr S hk (λz=>?_) λz m m1 m2=>?_)
 ·exact aB (h1 z)
 dsimp only;refine aA (dZ S.at_ rfl S.fits ?_);dsimp only;have few:=few z;obtain⟨p,p1,p2,p3,p4⟩:=S.tab.toTOk.put m1 m2 S.tab.room1;rw[p2];generalize (t.put (ST.dq t.mask ((a8 prog w).hash k) m)).1=t1 at p3 p4;have q1:t1.plain=t.plain:=by rw[p4]
 have q2:t1.led=t.led:=by rw[p4]
 have q3:t1.mask=t.mask:=by rw[p4]
 have l1:=S.els.len;have l2:=S.tab.len;rw[aF]at l2;have il:(jS es p ((a8 prog w).hash k,bX b)).toList=es.toList.take p++((a8 prog w).hash k,bX b)::es.toList.drop p:=ST.fy _ _ _;have sz:(jS es p ((a8 prog w).hash k,bX b)).size=es.size+1:=by
  rw[<-bB,il,yp.length_eq,aL,bB]
 have hz:(jS es p ((a8 prog w).hash k,bX b)).size<=aM:=by rw[sz,eU];rw[bB]at l1;lia
 have hh:(jS es p ((a8 prog w).hash k,bX b)).toList.map (·.1)=(es.toList.map (·.1)).take p++(a8 prog w).hash k::(es.toList.map (·.1)).drop p:=by
  rw[il,dH,aG,List.map_take,nZ]
 rw[<-hh]at p3;generalize jS es p ((a8 prog w).hash k,bX b)=es1 at il sz hz hh p3;have fl:∀(F:Bool->Sem Bool),(∀bv,(t1.plain && bv)=(t.plain && OL k)->aQ (bI prog w) A (F bv) Q E s)->aQ (bI prog w) A (if t1.plain=true then lG 8 (.ref b)>>=F else(pure true:Sem Bool)>>=F) Q E s:=λF hR=>by
  split
  ·rename_i c;exact aA (JH hk (hR _ (by rw[q1])))
  ·rename_i c;have c:t1.plain=false:=by simpa using c
   refine aA (aB (hR true ?_));rw[q1]at c;rw[q1,c];rfl
 refine fl _ λbv ebv=>?_;have⟨t2,et2,r1,r2,r3,r4⟩:∃t2,(if bv=true then t1 else{t1 with plain:=false})=t2/\ST.TOk t2 (es1.toList.map (·.1))/\t2.plain=(t.plain && OL k)/\t2.led=t.led/\t2.mask=t.mask:=by
  cases bv with
  |true=>exact⟨t1,aJ rfl,p3,by rw[<-ebv,Bool.and_true],q2,q3⟩
  |false=>exact⟨{t1 with plain:=false},aK (by decide),⟨p3.mask,p3.dum,p3.len,p3.rise,p3.le,p3.room,p3.reach⟩,by rw[<-ebv,kB],q2,q3⟩
 rw[et2];refine aA (wpAny_storeSet_of S.at_ rfl ?_ hz);have g1:(s.heap.update a (kZ es1 t2)).get? a=some {cls:=.type "set",dict:=none,data:=.set es1 (ep+1) t2}:=cG (kZ es1 t2) S.at_ rfl;have sb:=cX s.heap a (kZ es1 t2);have el1:ElsK prog w (s.heap.update a (kZ es1 t2)) es1.toList (ks.take p++k::ks.drop p):=by
  rw[il];refine zy S.at_ rfl sb ((S.els.take p).app ⟨k,_,rfl,⟨rfl,b,rfl,hk⟩,S.els.drop p⟩)
 have el2:∀hh,ElsK prog w hh es.toList ks->cm prog w hh k b->ElsK prog w hh es1.toList (ks.take p++k::ks.drop p):=λhh z1 z2=>by
  rw[il];exact(z1.take p).app ⟨k,_,rfl,⟨rfl,b,rfl,z2⟩,z1.drop p⟩
 have nd1:(ks.take p++k::ks.drop p).Nodup:=yp.nodup_iff.mpr (List.nodup_cons.mpr ⟨z,S.nd⟩);have ps:t2.place.size=t.place.size+1:=by
  have:=r1.len;rw[aF,bB]at this;rw[bB]at l2
  lia
 have lo:=S.tab.loose
 by_cases full:t2.tooFull=true
 ·rw[full];simp only[iN,Bool.and_self,if_true];rw[<-sz];refine aA (FQ (h0:=s.heap.update a (kZ es1 t2)) g1 rfl r1 el1 nd1 (by rw[ps,r4];exact lo) full (by rw[sz];rw[bB]at l1;lia) λh' ks' es' ep' t' sb' S' pp ee e1 e2=>?_);refine aB (h2 z h' ks' es' ep' t' (sb.trans sb') S' (pp.trans yp) (λhh z1 z2=>ee hh (el2 hh z1 z2)) (e1.trans r2) (e2.trans r3))
 ·have full':t2.tooFull=false:=by simpa using full
  rw[full'];simp only[iN,kB,Bool.false_eq_true,if_false];have lo2:t2.place.size * 5<t2.mask * 3:=by
   rw[ST.Bp r1.dum]at full';have:=of_decide_eq_false full'
   lia
  exact aB (h2 z _ _ _ _ _ sb ⟨g1,⟨r1,lo2⟩,el1,nd1⟩ yp el2 r2 r3)
end
def Ac(T:List bf)(k:bf):Bool:=T.any λx=>decide (x=k)
def qj:Ac T k=true↔k∈T:=by
 unfold Ac;rw[List.any_eq_true];constructor
 ·rintro ⟨x,hx,e⟩;rw[<-of_decide_eq_true e];exact hx
 ·intro h;exact⟨k,h,decide_eq_true rfl⟩
def rm(T:List bf)(k:bf):List bf:=if Ac T k then T else T++[k]
def l7(kz:List bf):List bf:=kz.foldl rm []
def BJ(T:List bf)(k:bf):T.length<=(rm T k).length:=by
 unfold rm;split
 ·exact aR _
 ·simp
theorem Qn:∀(kz:List bf)(T:List bf),T.length<=(kz.foldl rm T).length
 |[],T=>aR _
 |k::r,T=>cM (BJ T k) (Qn r _)
section
variable{prog:bQ}{w:cF}
def Zs{h h':Heap}(m:∀c o,h.get? c=some o->h'.get? c=some o)(q:iV (bb prog w) h ks b):iV (bb prog w) h' ks b:=by
 obtain⟨o',items,n,ho',hc,hd',hi⟩:=q;exact⟨o',items,n,m _ _ ho',hc,hd',hi⟩
def DZ{h h':Heap}(m:∀c o,h.get? c=some o->h'.get? c=some o):∀{k:NK}{v:aH},B3 prog w h k v->B3 prog w h' k v
 |.inl k,v,e=>e
 |.inr ks,v,⟨b,e,q⟩=>⟨b,e,Zs m q⟩
theorem Lx{h h':Heap}(m:∀c o,h.get? c=some o->h'.get? c=some o):∀{ks:bf}{vs:List aH},NItems prog w h ks vs->NItems prog w h' ks vs
 |[],_,e=>e
 |_::_,_,⟨v,t,e,h1,h2⟩=>⟨v,t,e,DZ m h1,Lx m h2⟩
def yi{h h':Heap}(m:∀c o,h.get? c=some o->h'.get? c=some o)(q:cm prog w h ks b):cm prog w h' ks b:=by
 obtain⟨o',items,n,ho',hc,hd',hi⟩:=q;exact⟨o',items,n,m _ _ ho',hc,hd',Lx m hi⟩
def Sa(prog:bQ)(w:cF)(h0 h:Heap)(a:Addr)(T:List bf):Prop:=∃ks es ep t,h.get? a=some {cls:=.type "set",dict:=none,data:=.set es ep t}/\ST.SOk t (es.toList.map (·.1))/\ElsK prog w h0 es.toList ks/\ks.Nodup/\ks.Perm T/\t.led=Pu.Lh w/\t.plain=T.all OL
theorem Kw{h h':Heap}(m:∀c o,h.get? c=some o->h'.get? c=some o):∀{l:List (Int×aH)}{ks:List bf},ElsK prog w h l ks->ElsK prog w h' l ks
 |[],_,e=>e
 |_::_,_,⟨k,r,e,⟨e1,b,e2,e3⟩,h2⟩=>⟨k,r,e,⟨e1,b,e2,yi m e3⟩,Kw m h2⟩
end
section
variable{prog:bQ}{w:cF}{A:cS}{R:Result->aN->Prop}{I:Addr}{fp wr:List Addr}{P:Nat->aH->Prop}{St:Nat->Heap->Prop}{kz:List bf}{h0:Heap}
def Us(W:Walks prog w A.in1 I fp wr kz.length P St)(hu:(a8 prog w).room A.in1)(a:Addr)(ha:a∉fp)(hb:∀c o,h0.get? c=some o->c≠a/\c∉wr)(hP:∀i v,P i v->∃k b,kz[i]?=some k/\v=.ref b/\cm prog w h0 k b):
  ∀(rest:List bf)(i:Nat)(s:aN)(T:List bf),kz.drop i=rest->i<=kz.length->St i s.heap->(∀c o,h0.get? c=some o->s.heap.get? c=some o)->Sa prog w h0 s.heap a T->(rest.foldl rm T).length<=76->
   (∀h' tk,(∀b o,b≠a->b∉wr->s.heap.get? b=some o->h'.get? b=some o)->Sa prog w h0 h' a (rest.foldl rm T)->R (.ok (.ret .none)) {s with heap:=h',toks:=tk})->
   hU (bI prog w) A (.builtin "set.update.loop" ⟨[.ref a,.ref I],[]⟩) R s:=by
 have haw:a∉wr:=λz=>ha (W.sub _ z);intro rest;induction rest with
 |nil=>
  intro i s T hd hi st h0s hT hl hR;have hin:i=kz.length:=by
   have:=congrArg iU hd;rw[dR,eZ]at this
   lia
  subst hin;refine eO kN ?_;rw[dM eR _];show aQ _ A.in1 (fH (.ref I)>>=_) _ _ s;refine aA (W.done s _ _ st λh' tk hk=>?_);show aQ _ A.in1 (ret bU) _ _ _;obtain⟨ks,es,ep,t,g,q⟩:=hT;exact aB (hR h' tk (λb o _ hb e=>hk b o hb e) ⟨ks,es,ep,t,hk a _ haw g,q⟩)
 |cons n rest ih=>
  intro i s T hd hi st h0s hT hl hR;have hlt:i<kz.length:=by
   have:=congrArg iU hd;rw[dR,aL]at this
   lia
  have hni:kz[i]?=some n:=by
   have:(kz.drop i)[0]?=some n:=by rw[hd];rfl
   simpa using this
  have hd':kz.drop (i+1)=rest:=by
   have:(kz.drop i).drop 1=rest:=by rw[hd];rfl
   rw[List.drop_drop]at this;exact this
  refine eO kN ?_;rw[dM eR _];show aQ _ A.in1 (fH (.ref I)>>=_) _ _ s;refine aA (W.item i s _ _ hlt st λv h1 tk1 hv st1 hk1=>?_);obtain⟨k,b,e1,rfl,hk⟩:=hP i v hv;rw[hni]at e1;cases e1;have h0s1:∀c o,h0.get? c=some o->h1.get? c=some o:=λc o e=>hk1 c o (hb c o e).2 (h0s c o e);obtain⟨ks,es,ep,t,g,so,el,nd,pm,le,pl⟩:=hT;have S1:SetK prog w h1 a ks es ep t:=⟨hk1 a _ haw g,so,Kw h0s1 el,nd⟩;show aQ _ A.in1 (pO [bX b] (setAdd a (.ref b))>>=_) _ _ _;refine aA (dO ?_);unfold setAdd;refine dO (aA ((a8 prog w).pyHash (k:=n) hu (yi h0s1 hk) ?_));have fl:=Qn rest (rm T n);have fle:(rest.foldl rm (rm T n)).length<=76:=hl
  by_cases hn:n∈ks
  ·have eT:rm T n=T:=by unfold rm;rw[aJ (qj.mpr (pm.mem_iff.mp hn))]
   refine HY (s:={s with heap:=h1,toks:=tk1+(a8 prog w).draws n}) hu S1 (λz=>absurd hn z) (yi h0s1 hk) (λ_=>?_) λz=>absurd hn z;refine aB ⟨eX eR _,ih (i+1) _ (rm T n) hd' hlt st1 h0s1 (by rw[eT];exact⟨ks,es,ep,t,S1.at_,so,el,nd,pm,le,pl⟩) hl λh' tk hk' hT'=>?_⟩;exact hR h' tk (λc o hc hw e=>hk' c o hc hw (hk1 c o hw e)) hT'
  ·have hnT:n∉T:=λz=>hn (pm.mem_iff.mpr z);have eT:rm T n=T++[n]:=by unfold rm;rw[aK (λz=>hnT (qj.mp z))]
   rw[eT]at fl fle;have few:ks.length<76:=by
    rw[pm.length_eq];simp at fl
    lia
   refine HY (s:={s with heap:=h1,toks:=tk1+(a8 prog w).draws n}) hu S1 (λ_=>few) (yi h0s1 hk) (λz=>absurd z hn) λ_ h2 ks' es' ep' t' sb S2 pp ee ep1 ep2=>?_;refine aB ⟨eX eR _,ih (i+1) _ (rm T n) hd' hlt (W.frame _ _ _ st1 λc hc o e=>?_) (λc o e=>?_) ⟨ks',es',ep',t',S2.at_,S2.tab,ee h0 el hk,S2.nd,?_,ep2.trans le,?_⟩ hl λh' tk hk' hT'=>?_⟩
   ·rw[sb.2 c (λz:c=a=>ha (z▸hc))];exact e
   ·show h2.get? c=some o;rw[sb.2 c (hb c o e).1];exact h0s1 c o e
   ·rw[eT];exact(pp.trans (pm.cons n)).trans (List.perm_append_singleton n T).symm
   ·rw[ep1,pl,eT,List.all_append];simp
   ·refine hR h' tk (λc o hc hw e=>hk' c o hc hw ?_) hT';show h2.get? c=some o;rw[sb.2 c hc];exact hk1 c o hw e
end
end L2
end
section
namespace Pu
open PySem PySem.Spec PyProof.Rows L2
def KeysIn(prog:bQ)(w:cF)(h:Heap):List aH->List bf->Prop
 |[],kz=>kz=[]
 |v::vs,kz=>∃k r b,kz=k::r/\v=.ref b/\cm prog w h k b/\KeysIn prog w h vs r
theorem KeysIn.len:∀{vs:List aH}{kz:List bf},KeysIn prog w h vs kz->vs.length=kz.length
 |[],kz,e=>by rw[show kz=[]from e];rfl
 |_::_,_,⟨k,r,b,e,_,_,t⟩=>by rw[e,aL,aL,t.len]
theorem KeysIn.get:∀{vs:List aH}{kz:List bf}{i:Nat}{v:aH},KeysIn prog w h vs kz->vs[i]?=some v->∃k b,kz[i]?=some k/\v=.ref b/\cm prog w h k b
 |[],_,_,_,_,q=>by simp at q
 |_::_,_,0,v,⟨k,r,b,e1,e2,h1,t⟩,q=>by subst e1;simp at q;subst q;exact⟨k,b,rfl,e2,h1⟩
 |_::_,_,i+1,v,⟨k,r,b,e1,e2,h1,t⟩,q=>by
  subst e1;obtain⟨k',b',q1,q2⟩:=KeysIn.get (i:=i) t (by simpa using q);exact⟨k',b',by simpa using q1,q2⟩
section
variable{prog:bQ}{w:cF}{A:cS}{E:aH->aN->Prop}{s:aN}
def Sj{h0:Heap}{items:Array aH}(hu:A.units+12<eD)(hh:A.handled=none)(hl:s.heap.IsList l items)(hi:KeysIn prog w h0 items.toList kz)(hm:∀c o,h0.get? c=some o->s.heap.get? c=some o)(hs:(l7 kz).length<=76)
  (h:∀(h':Heap)(tk:Nat),Sa prog w h0 h' s.heap.objs.size (l7 kz)->(∀c o,c<s.heap.objs.size->s.heap.get? c=some o->h'.get? c=some o)->Q (.ref s.heap.objs.size) {s with heap:=h',toks:=tk}):
  aQ (bI prog w) A (call (.type "set") [.ref l]) Q E s:=by
 obtain⟨c0,tl0,hmro⟩:=PySem.F.called_set.mro;have hmade:=PySem.F.called_set.made;have hsub:=PySem.F.called_set.sub;refine wpAny_call (codeAny_of_tree ?_);show aQ _ _ (callAny (.type "set") _) _ _ _;refine aB ⟨Code.quiet_builtin _ (by decide+kernel),eO PySem.F.entry_type_call ?_⟩;rw[Around.under_plain (weight_type_call_type "set" [.ref l] []) rfl];have hnt:=PySem.F.called_set.notType;have hcc:=PySem.F.called_set.canCreate;have hct:=PySem.F.typeCall_set_1 (.ref l)
 repeat (any_goals (first|assumption|wp_step))
 refine kJ (CA (.ref l) (E:=E) (Q:=λobj s₁=>obj=.ref s.heap.objs.size/\s₁={s with heap:=s.heap.push {cls:=.type "set",dict:=none,data:=.set #[] 0 (.fresh 0 0 (Lh w))}}) ⟨rfl,rfl⟩) λr s₁ hr=>?_;cases r with
 |error e=>exact hr
 |ok fl=>
  cases fl with
  |ret obj=>
   obtain⟨rfl,rfl⟩:=hr;generalize hh1:s.heap.push {cls:=.type "set",dict:=none,data:=.set #[] 0 (.fresh 0 0 (Lh w))}=h1;have hz1:h1.objs.size=s.heap.objs.size+1:=by rw[<-hh1,dB]
   have k1:∀c o,s.heap.get? c=some o->h1.get? c=some o:=λc o e=>by rw[<-hh1];exact aC _ e
   have hS:h1.get? s.heap.objs.size=some {cls:=.type "set",dict:=none,data:=.set #[] 0 (.fresh 0 0 (Lh w))}:=by rw[<-hh1];exact aT _ rfl
   have hT:Shared.TypeIs {s with heap:=h1} (.ref s.heap.objs.size) "set":=⟨_,hS,rfl⟩;have hli:=PySem.F.called_set.init.lookup;have hbi:=PySem.F.called_set.init.bind (.ref s.heap.objs.size)
   repeat (any_goals (first|assumption|wp_step))
   refine kJ (codeAny_call_builtin (R:=wants (λr s₂=>r=.none/\∃h' tk,s₂={s with heap:=h',toks:=tk}/\Sa prog w h0 h' s.heap.objs.size (l7 kz)/\(∀c o,c<s.heap.objs.size->s.heap.get? c=some o->h'.get? c=some o)) E)
    PySem.F.called_set.init.plain PySem.F.entry_set_init (check_set_init_1 hT ?_)) λr₂ s₂ hr₂=>?_
   ·have hlt:l<s.heap.objs.size:=by
     obtain⟨o,e,_⟩:=hl;exact aP e
    have hh3:A.in1.in1.in1.handled=none:=by simp[hh]
    have hneI:l≠h1.objs.size:=by rw[hz1];exact bH (iB hlt)
    have hSf:s.heap.objs.size∉[h1.objs.size,l]:=by
     rw[hz1];simp only[cR,fE,or_false,not_or];exact⟨bH (mD _),eK hlt⟩
    have len:items.size=kz.length:=by rw[<-bB];exact hi.len
    have fin:∀{h2:Heap}{oI:Obj},h2=h1.push oI->∀(h':Heap)(tk:Nat),(∀c o,c≠s.heap.objs.size->c∉[h1.objs.size]->h2.get? c=some o->h'.get? c=some o)->∀c o,c<s.heap.objs.size->s.heap.get? c=some o->h'.get? c=some o:=λ{h2 oI} e2 h' tk hk c o hc e=>by
     refine hk c o (bH hc) (by rw[hz1];simp;lia) ?_;rw[e2];exact aC _ (k1 c o e)
    obtain⟨ol,hol,hcl,nl,hdl⟩:=hl;obtain⟨ocls,odict,odata,oslots⟩:=ol;simp only at hcl hdl;subst hcl;subst hdl;have hol':=k1 _ _ hol;have q1:=PySem.F.sub_list_set;have q2:=PySem.F.sub_list_frozenset;have q3:(iW "list"==iW "dict")=false:=by decide
    have hl1:h1.IsList l items:=⟨_,hol',rfl,nl,rfl⟩;unfold Builtin.«set.__init__» noKeywords Builtin.Frozenset.updateFrom;generalize hPI:pyIter=PI
    wp_walk
    subst hPI;refine jO hl1 (aA (wpAny_runValue ?_));have W:=Walks.list (prog:=prog) (w:=w) hh3 h1.objs.size l hneI items;rw[len]at W;refine Us (h0:=h0) W (show A.units+1+1+1+4<eD by lia) s.heap.objs.size hSf (λc o e=>⟨bH (aP (hm c o e)),λz=>bH (iB (aP (hm c o e))) ((List.mem_singleton.mp z).trans hz1)⟩) (λi v hv=>hi.get (by rw[bR];exact hv)) kz 0 _ [] rfl (cT _) ⟨⟨_,aT _ rfl,rfl,rfl⟩,hl1.push _⟩ (λc o e=>aC _ (k1 c o (hm c o e))) ⟨[],#[],0,_,aC _ hS,ST.Uj _ _ _,rfl,fI,iT _,rfl,rfl⟩ hs λh' tk hk hS'=>?_;refine aB ?_;show aQ _ _ (ret bU) _ _ _;exact aB ⟨rfl,h',tk,rfl,hS',fin rfl h' tk hk⟩
   ·cases r₂ with
    |error e=>exact hr₂
    |ok fl₂=>
     cases fl₂ with
     |ret r=>
      obtain⟨rfl,h',tk,rfl,hS',hk'⟩:=hr₂
      repeat (any_goals (first|assumption|wp_step))
      exact h _ _ hS' hk'
     |_=>exact hr₂.elim
  |_=>exact hr.elim
end
section
variable{prog:bQ}{w:cF}{A:cS}{E:aH->aN->Prop}{s:aN}
def TC{src:Source}{n:Nat}{Q:Nat->aN->Prop}(hn:n≠0)(h:∀i d',i<n->Q i {s with drawn:=d'}):aQ (bI prog w) A (choose src n) Q E s:=λΓ p hΓ=>by
 unfold choose;rw[Sem.wp_choose];exact⟨hn,h _ _ (Nat.mod_lt _ (Nat.pos_of_ne_zero hn))⟩
theorem R8{α:Type}:∀(n:Nat)(xs:List α)(s:aN){Q:List α->aN->Prop},xs.length=n->(∀ys d',ys.Perm xs->Q ys {s with drawn:=d'})->aQ (bI prog w) A (drawOrder n xs) Q E s
 |0,xs,s,Q,hl,h=>by
  unfold drawOrder;have:xs=[]:=List.length_eq_zero_iff.mp hl;subst this;exact aB (h [] s.drawn (iT _))
 |n+1,[],s,Q,hl,h=>by cases hl
 |n+1,x::r,s,Q,hl,h=>by
  unfold drawOrder;refine aA (TC (by simp) λi d' hi=>?_);rw[bP hi];dsimp only;refine aA (R8 n ((x::r).eraseIdx i) _ (by rw[List.length_eraseIdx_of_lt hi,hl];rfl) λys d2 hp=>?_);exact aB (h _ d2 ((hp.cons _).trans (wz hi)))
end
def wg(h:Heap)(a:Addr)(es:Array (Int×aH))(ep:Nat)(t:dN):Prop:=h.get? a=some {cls:=.type "set",dict:=none,data:=.set es ep t}
def DrIt(h:Heap)(I T a:Addr)(i n ep:Nat):Prop:=h.get? I=some {cls:=.type "set_iterator",data:=.fields #[.ref T,cE i,.ref a,cE n,cE ep]}
def J6(h:Heap)(T:Addr)(ys:List Nat):Prop:=h.get? T=some {cls:=.type "tuple",data:=.seq (ys.map λ(i:Nat)=>cE i).toArray}
section
variable{prog:bQ}{w:cF}{A:cS}{E:aH->aN->Prop}{s:aN}{a I T:Addr}{es:Array (Int×aH)}{ep i:Nat}{t:dN}{ys:List Nat}
def DrIt.ty(h:DrIt s.heap I T a i n ep):s.TypeIs (.ref I) "set_iterator":=⟨_,h,rfl⟩
def BZ(hf:t.fits es.size=true)(ho:wg s.heap a es ep t)(hT:J6 s.heap T ys)(hit:DrIt s.heap I T a i es.size ep)(hp:ys[i]?=some p)(he:es[p]?=some e)
  (hQ:∀h',DrIt h' I T a (i+1) es.size ep->cJ I s.heap h'->Q (some e.2) {s with heap:=h'}):aQ (bI prog w) A (fH (.ref I)) Q E s:=by
 unfold fH;refine aA (fS (cA (name:=dJ "__next__") hit.ty ij (bW ij hit.ty sf ?_ (se _))));unfold Builtin.«set_iterator.__next__»;refine aA (aB ?_);refine aA (kF hit rfl ?_);dsimp only[cE];refine aA (gD ho rfl hf ?_);rw[aK (by simp)];refine aA (cL hT rfl ?_);dsimp only;have e1:((ys.map λ(i:Nat)=>cE i).toArray)[((i:Nat):Int).toNat]?=some (gW ((p:Nat):Int) 0):=by
  rw[dY,List.getElem?_toArray,bN,hp];rfl
 rw[e1];dsimp only;refine aA ?_;unfold setNextDrawn;refine aA (dZ ho rfl hf ?_);dsimp only;rw[aK (by simp),dY,he];dsimp only;refine aB ?_;have hit0:s.heap.get? I=some {cls:=.type "set_iterator",data:=.fields #[.ref T,cE (i:Nat),.ref a,cE (es.size:Nat),cE (ep:Nat)]}:=hit;refine aA (eE hit0 rfl (by simp) ?_);have g2:=cG (eN (·.setIfInBounds 1 (gW ((i:Int)+1) 0))) hit0 rfl;refine aB ⟨e.2,rfl,aB (hQ _ ?_ (cX ..))⟩;unfold DrIt;rw[g2];rfl
def JN(hh:A.handled=none)(hf:t.fits es.size=true)(ho:wg s.heap a es ep t)(hT:J6 s.heap T ys)(hl:ys.length=es.size)(hit:DrIt s.heap I T a es.size es.size ep)
  (hQ:∀h',nT I s.heap h'->Q none {s with heap:=h'}):aQ (bI prog w) A (fH (.ref I)) Q E s:=by
 unfold fH;refine aA (fS (cA (name:=dJ "__next__") hit.ty ij (bW ij hit.ty sf ?_ (se _))));unfold Builtin.«set_iterator.__next__»;refine aA (aB ?_);refine aA (kF hit rfl ?_);dsimp only[cE];refine aA (gD ho rfl hf ?_);rw[aK (by simp)];refine aA (cL hT rfl ?_);dsimp only;have e1:((ys.map λ(i:Nat)=>cE i).toArray)[((es.size:Nat):Int).toNat]?=none:=by
  rw[dY,List.getElem?_toArray,bN,dC (by lia)];rfl
 rw[e1];dsimp only;have hit0:s.heap.get? I=some {cls:=.type "set_iterator",data:=.fields #[.ref T,cE (es.size:Nat),.ref a,cE (es.size:Nat),cE (ep:Nat)]}:=hit;refine aA (eE hit0 rfl (by simp) ?_);have g1:=cG (eN (·.setIfInBounds 0 (gW 0 0))) hit0 rfl;refine aA (eE g1 rfl (by simp[eN]) ?_);show aQ _ _ (newExc (.type "StopIteration") []>>=pG) _ _ _;refine aA ?_;simp only[newExc,newTuple];refine aA (cD ?_ (by size_fits));refine aA (m:=gS _ _) (lF (a:=bU) (by first|rfl|(simp only[gS];rfl)) ?_);refine cD ?_ (by size_fits);simp only[pG];refine aA (nX ?_);rw[show A.in1.handled=none from hh];refine aA (aB (pH ?_));refine aA (fB (T:="StopIteration") (b:=true) ⟨_,aT _ rfl,rfl⟩ lP ?_);exact aB (hQ _ ((((cX ..).trans (cX ..)).extBut.push _).push _))
def Z8(hh:A.handled=none)(hf:t.fits es.size=true)(hp:ys.Perm (bT es.size))(hne:a≠I)(hnT:T≠I):Walks prog w A I [I,a,T] [I] es.size (λi v=>∃p e,ys[i]?=some p/\es[p]?=some e/\v=e.2) (λi h=>DrIt h I T a i es.size ep/\wg h a es ep t/\J6 h T ys) where
 sub:=λb hb=>by simp at hb;simp[hb]
 frame:=λ_ _ _ st hk=>⟨hk I (by simp) _ st.1,hk a (by simp) _ st.2.1,hk T (by simp) _ st.2.2⟩
 item:=λi s Q E hi st hQ=>by
  have hl:ys.length=es.size:=by rw[hp.length_eq,eL]
  have hy:ys[i]?=some (ys[i]'(by lia)):=bP _;have hb:ys[i]'(by lia)<es.size:=List.mem_range.mp (hp.mem_iff.mp (kK _));have he:es[ys[i]'(by lia)]?=some (es[ys[i]'(by lia)]'hb):=bJ _;exact BZ hf st.2.1 st.2.2 st.1 hy he λh' hit' hs'=>hQ _ h' s.toks ⟨_,_,hy,he,rfl⟩ ⟨hit',(hs'.2 a hne).trans st.2.1,(hs'.2 T hnT).trans st.2.2⟩ λb o hb e=>hs'.extBut b o (λh=>hb (by simp[h])) e
 done:=λs Q E st hQ=>JN hh hf st.2.1 st.2.2 (by rw[hp.length_eq,eL]) st.1 λh' he'=>hQ h' s.toks λb o hb e=>he' b o (λh=>hb (by simp[h])) e
 self:=λi s Q E st hQ=>by
  refine jQ st.1.ty yy (bW yy st.1.ty Ex ?_ (Ew _));show aQ _ _ (ret (.ref I)) _ _ s;exact aB ⟨_,rfl,"set_iterator",_,st.1.ty,ij.lookup,hQ⟩
end
structure NotDr(w:cF)(es:Array (Int×aH))(t:dN):Prop where
 fits:t.fits es.size=true
 rise:ST.Ris t.place
 led:t.led=Lh w
 pl:w.params.followText "set-order"=true\/(!t.plain && decide (es.size>1))=false
theorem NotDr.size{es:Array (Int×aH)}{t:dN}(N:NotDr w es t):t.place.size=es.size:=by
 have:=N.fits;unfold nY at this;rw[aO]at this;simpa using this.1
def NotDr.walk{es:Array (Int×aH)}{t:dN}(N:NotDr w es t):nE t.place 0=0/\∀i,i<es.size->nE t.place (t.place.getD i 0+1)=i+1:=by
 have at_:∀i,i<t.place.size->t.place[i]?=some (t.place.getD i 0):=λi hi=>by
  rw[bJ hi];simp[nB,hi]
 refine⟨?_,λi hi=>?_⟩
 ·obtain⟨b1,b2,b3⟩:=ST.xy (j:=0) N.rise;refine gV λz=>?_;have:=b2 0 _ (by lia) (at_ 0 (by lia))
  lia
 ·rw[<-N.size]at hi;obtain⟨b1,b2,b3⟩:=ST.xy (j:=t.place.getD i 0+1) N.rise;rcases jR (nE t.place (t.place.getD i 0+1)) (i+1)with z|z|z
  ·have:=b3 i _ (by lia) (at_ i hi);lia
  ·exact z
  ·have h1:=b2 (i+1) _ z (at_ (i+1) (by lia));have h2:=N.rise.lt (mD i) (at_ i hi) (at_ (i+1) (by lia))
   lia
noncomputable def l8(w:cF)(t:dN)(i:Nat):Nat:=if w.params.followText "set-order" then 0 else if i=0 then 0 else t.place.getD (i - 1) 0+1
section
variable{prog:bQ}{w:cF}{A:cS}{E:aH->aN->Prop}{s:aN}{a I:Addr}{es:Array (Int×aH)}{ep i:Nat}{t:dN}
def Rl(N:NotDr w es t)(ho:wg s.heap a es ep t)(hi:i<=es.size)
  (h:Q (((pb w a ep es)[i]?).map λe=>(e.2,l8 w t (i+1))) s):aQ (bI prog w) A (setNext a (l8 w t i) i ep) Q E s:=by
 have hf:t.fits es.size=true:=N.fits;unfold setNext;refine aA (dZ ho rfl hf ?_);dsimp only;unfold setsByText;refine aA (aA (iS (aB ?_)));have hb0:(bI prog w).w.params.followText "set-order"=w.params.followText "set-order":=rfl;cases bt:w.params.followText "set-order" with
 |true=>
  have e0:pb w a ep es=pickOrder (w.params.setOrder a ep) es:=by unfold pb;rw[aJ bt]
  have e1:∀i,l8 w t i=0:=λi=>by unfold l8;rw[aJ bt]
  rw[e0,e1]at h;rw[e1];have e2:(⟨(bI prog w).prog,(bI prog w).w.params⟩:Setting).params.followText "set-order"=true:=bt;rw[e2];simp only[if_true,bne_self_eq_false,Bool.false_eq_true,if_false];refine aA ?_;unfold setWalk;refine aA (dZ ho rfl hf ?_);dsimp only;unfold setsByText;refine aA (aA (iS (aB ?_)));rw[e2];simp only[if_true];refine aA (iS (aB ?_));exact aB h
 |false=>
  have e0:pb w a ep es=es:=by unfold pb;rw[aK (by rw[bt];decide)]
  have e1:∀i,l8 w t i=if i=0 then 0 else t.place.getD (i - 1) 0+1:=λi=>by unfold l8;rw[aK (by rw[bt];decide)]
  have e2:(⟨(bI prog w).prog,(bI prog w).w.params⟩:Setting).params.followText "set-order"=false:=bt;have e3:Lh w=true:=by unfold Lh;rw[bt];rfl
  have bl:nE t.place (l8 w t i)=i:=by
   obtain⟨b1,b2⟩:=N.walk;rw[e1]
   by_cases z:i=0
   ·rw[aJ z,z];exact b1
   ·rw[aK z,b2 (i - 1) (by lia)];lia
  rw[e0]at h;rw[e2];simp only[Bool.false_eq_true,if_false];refine jI (λz=>?_) λ_=>?_
  ·have z':(!t.plain && decide (es.size>1))=true:=z;rcases N.pl with y|y
   ·rw[bt]at y;cases y
   ·rw[y]at z';cases z'
  ·refine aA ?_;have e4:(!t.led && !es.isEmpty)=false:=by
    have:t.led=true:=N.led.trans e3;rw[this];rfl
   wp_delta
   rw[e4];simp only[Bool.false_eq_true,if_false];refine aB (aB ?_);rw[bl];cases hc:es[i]? with
   |none=>
    rw[hc]at h;exact h
   |some e=>
    rw[hc]at h;have hlt:i<t.place.size:=by
     have:=(Array.getElem?_eq_some_iff.mp hc).1;have:=N.size
     lia
    rw[bJ hlt];have:l8 w t (i+1)=t.place[i]+1:=by
     rw[e1,aK (by lia)];simp[nB,hlt]
    rw[this]at h;exact h
def DC(N:NotDr w es t)(ho:wg s.heap a es ep t)(hit:SetIt s.heap I a (l8 w t i) i es.size ep)(he:(pb w a ep es)[i]?=some e)
  (hQ:∀h',SetIt h' I a (l8 w t (i+1)) (i+1) es.size ep->cJ I s.heap h'->Q (some e.2) {s with heap:=h'}):aQ (bI prog w) A (fH (.ref I)) Q E s:=by
 have hf:t.fits es.size=true:=N.fits;have hi:i<=es.size:=by
  have h1:=(Array.getElem?_eq_some_iff.mp he).1;have h2:=(oq w a ep es).length_eq;rw[bB,bB]at h2
  lia
 unfold fH;refine aA (fS (cA (name:=dJ "__next__") hit.ty ij (bW ij hit.ty sf ?_ (se _))));unfold Builtin.«set_iterator.__next__»;refine aA (aB ?_);refine aA (kF hit rfl ?_);dsimp only[cE];refine aA (gD ho rfl hf ?_);rw[aK (by simp)];refine aA (Rl (prog:=prog) N ho hi ?_);rw[show((ep:Int).toNat)=ep from dY ep,he];dsimp only[Option.map];have hit0:s.heap.get? I=some {cls:=.type "set_iterator",data:=.fields #[cE (l8 w t i:Nat),cE (i:Nat),.ref a,cE (es.size:Nat),cE (ep:Nat)]}:=hit;refine aA (eE hit0 rfl (by simp) ?_);have g1:=cG (eN (·.setIfInBounds 0 (gW ((l8 w t (i+1):Nat):Int) 0))) hit0 rfl;refine aA (eE g1 rfl (by simp[eN]) ?_);have g2:=cG (eN (·.setIfInBounds 1 (gW ((i:Int)+1) 0))) g1 rfl;refine aB ⟨e.2,rfl,aB (hQ _ ?_ ((cX ..).trans (cX ..)))⟩;unfold SetIt;rw[g2];rfl
def LI(hh:A.handled=none)(N:NotDr w es t)(ho:wg s.heap a es ep t)(hit:SetIt s.heap I a (l8 w t es.size) es.size es.size ep)
  (hQ:∀h',nT I s.heap h'->Q none {s with heap:=h'}):aQ (bI prog w) A (fH (.ref I)) Q E s:=by
 have hf:t.fits es.size=true:=N.fits;have he:(pb w a ep es)[es.size]?=none:=by
  have h2:=(oq w a ep es).length_eq;rw[bB,bB]at h2;rw[<-h2];simp
 unfold fH;refine aA (fS (cA (name:=dJ "__next__") hit.ty ij (bW ij hit.ty sf ?_ (se _))));unfold Builtin.«set_iterator.__next__»;refine aA (aB ?_);refine aA (kF hit rfl ?_);dsimp only[cE];refine aA (gD ho rfl hf ?_);rw[aK (by simp)];refine aA (Rl (prog:=prog) N ho (aR _) ?_);rw[show((ep:Int).toNat)=ep from dY ep,he];dsimp only[Option.map];have hit0:s.heap.get? I=some {cls:=.type "set_iterator",data:=.fields #[cE (l8 w t es.size:Nat),cE (es.size:Nat),.ref a,cE (es.size:Nat),cE (ep:Nat)]}:=hit;refine aA (eE hit0 rfl (by simp) ?_);show aQ _ _ (newExc (.type "StopIteration") []>>=pG) _ _ _;refine aA ?_;simp only[newExc,newTuple];refine aA (cD ?_ (by size_fits));refine aA (m:=gS _ _) (lF (a:=bU) (by first|rfl|(simp only[gS];rfl)) ?_);refine cD ?_ (by size_fits);simp only[pG];refine aA (nX ?_);rw[show A.in1.handled=none from hh];refine aA (aB (pH ?_));refine aA (fB (T:="StopIteration") (b:=true) ⟨_,aT _ rfl,rfl⟩ lP ?_);exact aB (hQ _ (((cX ..).extBut.push _).push _))
def DB(N:NotDr w es t)(ho:wg s.heap a es ep t)
  (hQ:Q (.ref s.heap.objs.size) {s with heap:=s.heap.push {cls:=.type "set_iterator",data:=.fields #[cE (0:Nat),cE (0:Nat),.ref a,cE (es.size:Nat),cE (ep:Nat)]}}):aQ (bI prog w) A (pyIter (.ref a)) Q E s:=by
 have hT:s.TypeIs (.ref a) "set":=⟨_,ho,rfl⟩;have hf:t.fits es.size=true:=N.fits;refine jQ hT jL (bW jL hT Eu ?_ (PySem.F.args_set_iter_1 _));unfold Builtin.«frozenset.__iter__» Builtin.Frozenset.slot0 slotArgs;simp only[oM,dD,Bool.false_eq_true,↓reduceIte,bind_assoc,eZ,bne_self_eq_false];unfold Builtin.Frozenset.addrOf Builtin.Frozenset.sizeOf;refine aA (aB ?_)
 try dsimp only
 refine aA (aB ?_);refine aA (aA (gD ho rfl hf (aB ?_)));refine aA ?_;unfold setDrawn;refine aA (dZ ho rfl hf ?_);dsimp only;unfold setsByText;refine aA (aA (iS (aB (aB ?_))));refine jI (λz=>?_) λ_=>?_
 ·exfalso;rw[aO]at z;have z':(!t.plain && decide (es.size>1))=true:=z.2;have z1:(!(w.params.followText "set-order"))=true:=z.1;rcases N.pl with y|y
  ·rw[y]at z1;cases z1
  ·rw[y]at z';cases z'
 ·refine aA (aB (aA (wpAny_setEpoch_of ho rfl hf ?_)));refine aA (cD (aB ⟨_,rfl,"set_iterator",_,⟨_,aT _ rfl,rfl⟩,ij.lookup,hQ⟩) (by size_fits))
def Z9(hh:A.handled=none)(N:NotDr w es t)(hne:a≠I):Walks prog w A I [I,a] [I] es.size (λi v=>∃e,(pb w a ep es)[i]?=some e/\v=e.2) (λi h=>SetIt h I a (l8 w t i) i es.size ep/\wg h a es ep t) where
 sub:=λb hb=>by simp at hb;simp[hb]
 frame:=λ_ _ _ st hk=>⟨hk I (by simp) _ st.1,hk a (by simp) _ st.2⟩
 item:=λi s Q E hi st hQ=>by
  have h2:=(oq w a ep es).length_eq;rw[bB,bB]at h2;have he:(pb w a ep es)[i]?=some ((pb w a ep es)[i]'(by lia)):=bJ _;exact DC N st.2 st.1 he λh' hit' hs'=>hQ _ h' s.toks ⟨_,he,rfl⟩ ⟨hit',(hs'.2 a hne).trans st.2⟩ λb o hb e=>hs'.extBut b o (λh=>hb (by simp[h])) e
 done:=λs Q E st hQ=>LI hh N st.2 st.1 λh' he'=>hQ h' s.toks λb o hb e=>he' b o (λh=>hb (by simp[h])) e
 self:=λi s Q E st hQ=>by
  refine jQ st.1.ty yy (bW yy st.1.ty Ex ?_ (Ew _));show aQ _ _ (ret (.ref I)) _ _ s;exact aB ⟨_,rfl,"set_iterator",_,st.1.ty,ij.lookup,hQ⟩
def BY(hf:t.fits es.size=true)(bt:w.params.followText "set-order"=false)(hd:(!t.plain && decide (es.size>1))=true)(few:es.size<=76)(ho:wg s.heap a es ep t)
  (hQ:∀(ys:List Nat) d' h',ys.Perm (bT es.size)->h'=(s.heap.push {cls:=.type "tuple",data:=.seq (ys.map λ(i:Nat)=>cE i).toArray}).push {cls:=.type "set_iterator",data:=.fields #[.ref s.heap.objs.size,cE (0:Nat),.ref a,cE (es.size:Nat),cE (ep:Nat)]}->Q (.ref (s.heap.objs.size+1)) {s with heap:=h',drawn:=d'}):aQ (bI prog w) A (pyIter (.ref a)) Q E s:=by
 have hT:s.TypeIs (.ref a) "set":=⟨_,ho,rfl⟩;refine jQ hT jL (bW jL hT Eu ?_ (PySem.F.args_set_iter_1 _));unfold Builtin.«frozenset.__iter__» Builtin.Frozenset.slot0 slotArgs;simp only[oM,dD,Bool.false_eq_true,↓reduceIte,bind_assoc,eZ,bne_self_eq_false];unfold Builtin.Frozenset.addrOf Builtin.Frozenset.sizeOf;refine aA (aB ?_)
 try dsimp only
 refine aA (aB ?_);refine aA (aA (gD ho rfl hf (aB ?_)));refine aA ?_;unfold setDrawn;refine aA (dZ ho rfl hf ?_);dsimp only;unfold setsByText;refine aA (aA (iS (aB (aB ?_))));refine jI (λ_=>?_) λz=>?_
 ·refine aA (R8 es.size _ _ (eL) λys d' hp=>?_);have hl:ys.length<=76:=by rw[hp.length_eq,eL];exact few
  refine aA (nC ?_ (by rw[aF,eU];lia));have ho1:wg (s.heap.push {cls:=.type "tuple",data:=.seq (ys.map λ(i:Nat)=>cE i).toArray}) a es ep t:=aC _ ho;refine aA (wpAny_setEpoch_of ho1 rfl hf ?_);refine aA (cD (aB ⟨_,rfl,"set_iterator",_,⟨_,aT _ rfl,rfl⟩,ij.lookup,?_⟩) (by size_fits));rw[dB];exact hQ ys d' _ hp rfl
 ·exfalso;refine z ?_;rw[aO];exact⟨by show(!(w.params.followText "set-order"))=true;rw[bt];rfl,hd⟩
end
section
variable{prog:bQ}{w:cF}{A:cS}{E:aH->aN->Prop}{s:aN}{a L:Addr}{es:Array (Int×aH)}{ep:Nat}{t:dN}
abbrev IH(ys:List Nat)(es:Array (Int×aH)):Nat->aH->Prop:=λi v=>∃p e,ys[i]?=some p/\es[p]?=some e/\v=e.2
def Ss(hh:A.handled=none)(hf:t.fits es.size=true)(bt:w.params.followText "set-order"=false)(hd:(!t.plain && decide (es.size>1))=true)(few:es.size<=76)(ho:wg s.heap a es ep t)(hne:L≠a)(res:aH)(c0:Nat)
  (hL:s.heap.get? L=some {cls:=.type "list",data:=.seq #[] c0})
  (hR:∀ys d' h' tk acc c',pS ys (bT es.size)->(∀b o,b≠L->s.heap.get? b=some o->h'.get? b=some o)->h'.get? L=some {cls:=.type "list",dict:=none,data:=.seq acc c',slots:=#[]}->ItemsOf (IH ys es) acc es.size->R (.ok (.ret res)) {s with heap:=h',toks:=tk,drawn:=d'}):
  aQ (bI prog w) A.in1 (jT (.ref L) (.ref a) res)
   (λfin s1=>match fin with|.done f=>R (.ok f) s1|.again c1=>c1.quiet=true/\hU (bI prog w) A c1 R s1) (λe s1=>R (.error e) s1) s:=by
 have ltL:=aP hL;have lta:=aP (show s.heap.get? a=some _ from ho);have zn:es.size<=aM:=by rw[eU];lia
 unfold jT;refine aA (hV (T:="set") ⟨_,ho,rfl⟩ ?_);have n1:Builtin.List.listSameRef (.ref L) (.ref a)=false:=by simp[Builtin.List.listSameRef,hne]
 have n2:(iW "set"==iW "list")=false:=by decide
 have n3:(iW "set"==iW "tuple")=false:=by decide
 simp only[n1,n2,n3,Bool.or_false,Bool.false_eq_true,if_false];refine aA (BY hf bt hd few ho λys d' h1 hp e1=>?_);have up:∀b o,s.heap.get? b=some o->h1.get? b=some o:=λb o e=>by
  rw[e1];exact aC _ (aC _ e)
 have hT1:J6 h1 s.heap.objs.size ys:=by
  rw[e1];exact aC _ (aT _ rfl)
 have hI1:DrIt h1 (s.heap.objs.size+1) s.heap.objs.size a 0 es.size ep:=by
  rw[e1];have:((s.heap.push {cls:=.type "tuple",data:=.seq (ys.map λ(i:Nat)=>cE i).toArray}).push {cls:=.type "set_iterator",data:=.fields #[.ref s.heap.objs.size,cE (0:Nat),.ref a,cE (es.size:Nat),cE (ep:Nat)]}).get? (s.heap.push {cls:=.type "tuple",data:=.seq (ys.map λ(i:Nat)=>cE i).toArray}).objs.size=some {cls:=.type "set_iterator",data:=.fields #[.ref s.heap.objs.size,cE (0:Nat),.ref a,cE (es.size:Nat),cE (ep:Nat)]}:=aT _ rfl;rw[dB]at this;exact this
 have ho1:wg h1 a es ep t:=up _ _ ho;have hL1:=up _ _ hL;have W:=Z8 (prog:=prog) (w:=w) (A:=A.in1) (ep:=ep) (t:=t) (a:=a) (I:=s.heap.objs.size+1) (T:=s.heap.objs.size) (by simpa using hh) hf hp (bH (iB lta)) (bH (mD _));have nf:L∉[s.heap.objs.size+1,a,s.heap.objs.size]:=by
  simp only[cR,fE,or_false,not_or];exact⟨bH (iB ltL),hne,bH ltL⟩
 have run:∀(h2:Heap)(c1 tk:Nat),(DrIt h2 (s.heap.objs.size+1) s.heap.objs.size a 0 es.size ep/\wg h2 a es ep t/\J6 h2 s.heap.objs.size ys)->(∀b o,b≠L->s.heap.get? b=some o->h2.get? b=some o)->h2.get? L=some {cls:=.type "list",data:=.seq #[] c1}->
   hU (bI prog w) A (.builtin "list.extend.loop" ⟨[.ref L,.ref (s.heap.objs.size+1),res],[]⟩) R {s with heap:=h2,toks:=tk,drawn:=d'}:=by
  intro h2 c1 tk st kp g;refine codeAny_extend_loopS W.toS zn L nf res es.size 0 _ #[] c1 rfl (cT _) st g (ItemsOf.nil _) λs3 acc c3 mv g3 ia=>?_;rw[Moved.eq_with mv];refine hR ys d' s3.heap s3.toks acc c3 hp (λb o nb e=>mv.heap b o (λz=>?_) (kp b o nb e)) g3 ia;rcases List.mem_cons.mp z with z|z
  ·exact nb z
  ·have:=aP e;rw[List.mem_singleton.mp z]at this;exact cO _ (Nat.lt_of_succ_lt this)
 refine aA (dO (Mi ⟨_,(show h1.get? a=some _ from ho1),rfl⟩ ?_));refine jI (λ_=>?_) (λ_=>aB ⟨eX PySem.F.plain_extend_loop _,run _ c0 _ ⟨hI1,ho1,hT1⟩ (λb o _ e=>up b o e) hL1⟩);refine aA (iG ?_);refine aA ?_;show aQ _ _ (updateSeq L (·.push .none)>>=λ_=>updateSeq L (·.pop)) _ _ _;refine aA (gZ hL1 rfl ?_);have hL2:=cG (jZ (·.push bU)) hL1 rfl;refine gZ (hz:=by seq_fits) hL2 rfl ?_;have hL3:=cG (jZ (·.pop)) hL2 rfl;have oth:∀b o,b≠L->h1.get? b=some o->((h1.update L (jZ (·.push bU))).update L (jZ (·.pop))).get? b=some o:=λb o nb e=>by
  rw[cH _ _ (dX nb),cH _ _ (dX nb)];exact e
 refine aB ⟨eX PySem.F.plain_extend_loop _,run _ _ _ ⟨oth _ _ (λz=>nf (by simp[z])) hI1,oth _ _ (dX hne) ho1,oth _ _ (λz=>nf (by simp[z])) hT1⟩ (λb o nb e=>oth b o nb (up b o e)) hL3⟩
end
section
variable{prog:bQ}{w:cF}{A:cS}{E:aH->aN->Prop}{s:aN}{a L:Addr}{es:Array (Int×aH)}{ep:Nat}{t:dN}
def Np(hh:A.handled=none)(hf:t.fits es.size=true)(bt:w.params.followText "set-order"=false)(hd:(!t.plain && decide (es.size>1))=true)(few:es.size<=76)(ho:wg s.heap a es ep t)
  (hR:∀ys d' h' tk acc,pS ys (bT es.size)->(∀b o,s.heap.get? b=some o->h'.get? b=some o)->ItemsOf (IH ys es) acc es.size->R acc.toList {s with heap:=h',toks:=tk,drawn:=d'}):aQ (bI prog w) A (collect (.ref a)) R E s:=by
 have lta:=aP (show s.heap.get? a=some _ from ho);unfold collect;refine aA (wpAny_runValue (eO PyProof.Rows.entry_proto_collect' ?_));rw[dM PySem.F.plain_proto_collect _];show aQ _ A.in1 (newList []>>=λl=>again (.builtin "list.__iadd__" ⟨[l,.ref a],[]⟩)) _ _ s;refine aA (cD ?_);refine aB ⟨eX PySem.F.plain_list_iadd _,eO PyProof.Rows.entry_list_iadd' ?_⟩;rw[dM PySem.F.plain_list_iadd _];generalize eh:s.heap.push {cls:=.type "list",data:=.seq ([]:List aH).toArray}=h1;have gL:h1.get? s.heap.objs.size=some {cls:=.type "list",data:=.seq #[]}:=by rw[<-eh];exact aT _ rfl
 have up:∀b o,s.heap.get? b=some o->h1.get? b=some o:=λb o e=>by rw[<-eh];exact aC _ e
 have key:=Ss (prog:=prog) (w:=w) (A:=A) (s:={s with heap:=h1}) (L:=s.heap.objs.size) (a:=a)
  (R:=λq s1=>∃ys d' h' tk acc c',q=.ok (.ret (.ref s.heap.objs.size))/\s1={s with heap:=h',toks:=tk,drawn:=d'}/\pS ys (bT es.size)/\(∀b o,s.heap.get? b=some o->h'.get? b=some o)/\h'.get? s.heap.objs.size=some {cls:=.type "list",dict:=none,data:=.seq acc c',slots:=#[]}/\ItemsOf (IH ys es) acc es.size)
  hh hf bt hd few (up _ _ ho) (eK lta) (.ref s.heap.objs.size) 0 gL λys d' h' tk acc c' hp hk g ia=>⟨ys,d',h',tk,acc,c',rfl,rfl,hp,λb o e=>hk b o (bH (aP e)) (up b o e),g,ia⟩
 show aQ _ A.in1 (jT (.ref s.heap.objs.size) (.ref a) (.ref s.heap.objs.size)) _ _ _;refine cK key (λfin s1 x=>?_) λe s1 x=>?_
 ·cases fin with
  |done f=>
   obtain⟨ys,d',h',tk,acc,c',e,rfl,hp,hk,g,ia⟩:=x;cases e;show aQ _ A (load s.heap.objs.size>>=_) _ _ _;refine aA (wpAny_load g ?_);exact aB (hR ys d' h' tk acc hp hk ia)
  |again c1=>
   refine⟨x.1,kJ x.2 λq s2 y=>?_⟩;obtain⟨ys,d',h',tk,acc,c',rfl,rfl,hp,hk,g,ia⟩:=y;show aQ _ A (load s.heap.objs.size>>=_) _ _ _;refine aA (wpAny_load g ?_);exact aB (hR ys d' h' tk acc hp hk ia)
 ·obtain⟨ys,d',h',tk,acc,c',e,_⟩:=x;cases e
def NQ(N:NotDr w es t):PySem.W.KdlSrc prog w "set" a a es.size (λi v=>∃e,(pb w a ep es)[i]?=some e/\v=e.2) (λh=>wg h a es ep t) where
 type:=λ_ hm=>⟨_,hm,rfl⟩
 there:=λ_ hm=>⟨aP (show pT _ a=some _ from hm),aP (show pT _ a=some _ from hm)⟩
 keep:=λ_ _ hm hk=>hk a (.inl rfl) _ hm
 notList:=by decide
 notTuple:=by decide
 hint:=λ_ _ _ _ hm hq=>Mi ⟨_,hm,rfl⟩ hq
 iter:=λA s hh hm=>⟨_,_,(λ_ _ hq=>DB N hm hq),Z9 hh N (bH (aP (show pT _ a=some _ from hm))),⟨by
  have:l8 w t 0=0:=by unfold l8;split<;>rfl
  rw[this];exact aT _ rfl,aC _ hm⟩⟩
end
section
variable{prog:bQ}{w:cF}{A:cS}{E:aH->aN->Prop}{s:aN}{a:Addr}
def V0{l l':List (Int×aH)}(p:l.Perm l'):∀{ks:List bf},ElsK prog w h l ks->∃ks',ks'.Perm ks/\ElsK prog w h l' ks':=by
 induction p with
 |nil=>intro ks q;exact⟨ks,iT _,q⟩
 |cons x p ih=>
  intro ks ⟨k,r,e,h1,h2⟩;subst e;obtain⟨r',q1,q2⟩:=ih h2;exact⟨k::r',q1.cons k,k,r',rfl,h1,q2⟩
 |swap x y l=>
  intro ks ⟨k,r,e,h1,k2,r2,e2,h2,h3⟩;subst e;subst e2;exact⟨k2::k::r2,lO _ _ _,k2,k::r2,rfl,h2,k,r2,rfl,h1,h3⟩
 |trans p1 p2 ih1 ih2=>
  intro ks q;obtain⟨k1,q1,q2⟩:=ih1 q;obtain⟨k2,q3,q4⟩:=ih2 q2;exact⟨k2,q3.trans q1,q4⟩
theorem Kv:∀{l:List (Int×aH)}{ks:List bf},ElsK prog w h l ks->KeysIn prog w h (l.map (·.2)) ks
 |[],ks,e=>e
 |_::_,_,⟨k,r,e,⟨_,b,e2,e3⟩,h2⟩=>⟨k,r,b,e,e2,e3,Kv h2⟩
def Mh{T:List bf}(hh:A.handled=none)(S:Sa prog w h0 s.heap a T)(few:T.length<=76)
  (hR:∀d' h' tk vs kz,(∀b o,s.heap.get? b=some o->h'.get? b=some o)->pS kz T->KeysIn prog w h0 vs kz->R vs {s with heap:=h',toks:=tk,drawn:=d'}):aQ (bI prog w) A (collect (.ref a)) R E s:=by
 obtain⟨ks,es,ep,t,g,so,el,nd,pm,le,pl⟩:=S;have ln:es.size=T.length:=by rw[<-pm.length_eq,<-el.len,bB]
 have hf:t.fits es.size=true:=by
  obtain⟨h1,h2⟩:=so.toTOk.fits;unfold nY;rw[aO];exact⟨by rw[h1];simp,decide_eq_true h2⟩
 have zn:es.size<=aM:=by rw[eU];lia
 have fin:∀(l:List (Int×aH)),l.Perm es.toList->∃kz,pS kz T/\KeysIn prog w h0 (l.map (·.2)) kz:=λl hp=>by
  obtain⟨ks',q1,q2⟩:=V0 hp.symm el;exact⟨ks',q1.trans pm,Kv q2⟩
 by_cases dr:w.params.followText "set-order"=false/\(!t.plain && decide (es.size>1))=true
 ·refine Np hh hf dr.1 dr.2 (by lia) g λys d' h' tk acc hp hk ia=>?_;have ob:∀i∈ys,i<es.toList.length:=λi hi=>by
   have:=List.mem_range.mp (hp.mem_iff.mp hi);rw[bB];exact this
  have yl:ys.length=es.size:=by rw[hp.length_eq,eL]
  have ew:acc.toList=(ys.map λi=>es.toList.getD i (0,.none)).map (·.2):=by
   refine iC λi=>?_
   by_cases hi:i<acc.size
   ·have hi':acc.toList[i]?=some acc[i]:=by rw[bR];exact bJ hi
    obtain⟨p,e,e1,e2,e3⟩:=ia.2 i acc[i] (bJ hi);rw[hi',bN,bN,e1,e3];rw[<-bR]at e2;simp only[fW,cB,e2,Option.getD_some]
   ·rw[dC (by rw[bB];lia),dC (by rw[aF,aF,yl,<-ia.1];lia)]
  obtain⟨kz,q1,q2⟩:=fin _ (xk (order:=ys) (d:=(0,.none)) (by rw[bB];exact hp));rw[ew];exact hR d' h' tk _ kz hk q1 q2
 ·have N:NotDr w es t:=⟨hf,so.rise,le,by
   cases bt:w.params.followText "set-order" with
   |true=>exact .inl rfl
   |false=>
    cases e:(!t.plain && decide (es.size>1))with
    |false=>exact .inr rfl
    |true=>exact absurd ⟨bt,e⟩ dr⟩
  refine PySem.W.kdu_collect (NQ (ep:=ep) N) hh g zn λh' tk acc hk hacc=>?_;have wl:=(oq w a ep es).length_eq;have ew:acc.toList=(pb w a ep es).toList.map (·.2):=by
   refine iC λi=>?_
   by_cases hi:i<acc.size
   ·have hi':acc.toList[i]?=some acc[i]:=by rw[bR];exact bJ hi
    obtain⟨e,e1,e2⟩:=hacc.2 i acc[i] (bJ hi);rw[hi',bN,bR,e1,e2];rfl
   ·rw[dC (by rw[bB];lia),dC (by rw[aF,wl,bB,<-hacc.1];lia)]
  obtain⟨kz,q1,q2⟩:=fin _ (oq w a ep es);rw[ew];exact hR s.drawn h' tk _ kz hk q1 q2
end
def Ec(x:Option HO)(o:Obj):Obj:=match x with
 |some (.tup _)=>o
 |_=>{o with data:=.freed}
def Tx(h:∀vs,x≠some (.tup vs)):(Ec x o).data=.freed:=by
 unfold Ec;split
 ·rename_i vs;exact absurd rfl (h vs)
 ·rfl
def Ii(H:Hp)(h:Heap):Heap:={h with objs:=h.objs.mapIdx λi o=>Ec (H i) o}
def Wf{h:Heap}{o:Obj}(e:h.objs[b]?=some o)(hd:o.data≠.freed):h.get? b=some o:=by
 unfold pT;rw[e];obtain⟨c,d,dt,sl⟩:=o;cases dt<;>first|rfl|exact absurd rfl hd
def Wg{h:Heap}{o:Obj}(e:h.get? b=some o):h.objs[b]?=some o/\o.data≠.freed:=by
 unfold pT at e;cases ho:h.objs[b]? with
 |none=>rw[ho]at e;cases e
 |some ob=>
  rw[ho]at e;obtain⟨c,d,dt,sl⟩:=ob;cases dt<;>first|(cases e;exact⟨rfl,λz=>nomatch z⟩)|cases e
def AC{h:Heap}(e:h.get? b=some o)(hb:H b=some (.tup vs)):(Ii H h).get? b=some o:=by
 obtain⟨e1,e2⟩:=Wg e;refine Wf ?_ e2;show(h.objs.mapIdx λi o=>Ec (H i) o)[b]?=some o;rw[Array.getElem?_mapIdx,e1];show some (Ec (H b) o)=some o;rw[hb];rfl
def C6{h:Heap}(e:(Ii H h).get? b=some o):h.get? b=some o/\∃vs,H b=some (.tup vs):=by
 obtain⟨e1,e2⟩:=Wg e;have e1':(h.objs.mapIdx λi o=>Ec (H i) o)[b]?=some o:=e1;rw[Array.getElem?_mapIdx]at e1';cases ho:h.objs[b]? with
 |none=>rw[ho]at e1';cases e1'
 |some ob=>
  rw[ho]at e1';have e3:Ec (H b) ob=o:=bM e1'
  by_cases c:∃vs,H b=some (.tup vs)
  ·obtain⟨vs,hb⟩:=c;rw[hb]at e3;have e4:ob=o:=e3;subst e4;exact⟨Wf ho e2,vs,hb⟩
  ·have:=Tx (x:=H b) (o:=ob) λvs z=>c ⟨vs,z⟩;rw[e3]at this;exact absurd this e2
section
variable{P:bQ}{w:cF}{G H:Hp}{h:Heap}{K:KA}
def Pn(H:Hp):Hp:=gT (λ_=>none) H
def BL(ok:HOk P w H h):HOk P w (Pn H) (Ii H h):=by
 intro a o e
 by_cases c:∃vs,H a=some (.tup vs)
 ·obtain⟨vs,hb⟩:=c;rw[show Pn H a=some (.tup vs)from Ab hb]at e;cases e;obtain⟨z,its,r,ob,e1,e2⟩:=(show ObjOk P w H h a (.tup vs)from ok a _ hb);exact⟨z,its,r,ob,AC e1 hb,e2⟩
 ·rw[show Pn H a=none from Iu λvs z=>c ⟨vs,z⟩]at e;cases e
def CZ(ok:HOk P w H h)(q:TkAt H k b):cm P w (Ii H h) k b:=xc (BL ok) (q.mono λb xs e=>Ab e)
def Y1(r:RelV x (.ref b)):x=.ref b:=by
 cases x<;>first|(cases r;rfl)|(obtain⟨_,z⟩:=r;cases z)|cases r
def Qx(e:(bb P w).is k v=true)(r:RelV x v):x=kV k:=by
 rcases cj e with ⟨i,t,rfl,rfl⟩|⟨y,t,rfl,rfl⟩
 ·cases x<;>first|(obtain⟨_,z⟩:=r;cases z;rfl)|(obtain⟨_,z⟩:=r;cases z)|cases r
 ·cases x<;>first|(obtain⟨_,z⟩:=r;cases z;rfl)|(obtain⟨_,z⟩:=r;cases z)|cases r
theorem Dq:∀{ks:List gi}{us:List aH}{xs:List V},ItemsAre (bb P w) ks us->Vals xs us->xs=ks.map kV
 |_,_,_,.nil,r=>by cases r;rfl
 |_,_,_,.cons h1 t1,r=>by
  cases r with
  |cons h2 t2=>rw[Qx h1 h2,Dq t1 t2,aG]
def Zr(ok:HOk P w H h){ks:List gi}(q:iV (bb P w) (Ii H h) ks b):H b=some (.tup (ks.map kV)):=by
 obtain⟨o,items,n,e,hc,hd,hi⟩:=q;obtain⟨e1,vs,hb⟩:=C6 e;obtain⟨_,its,r,ob,e2,hc2,n2,hd2⟩:=(show ObjOk P w H h b (.tup vs)from ok b _ hb);rw[e1]at e2;cases e2;rw[hd]at hd2;cases hd2;rw[hb,Dq (by simpa using hi) r]
theorem Ly(ok:HOk P w H h):∀{ks:bf}{vs:List V}{us:List aH},NItems P w (Ii H h) ks us->Vals vs us->NkL H ks vs
 |[],vs,us,e,r=>by rw[show us=[]from e]at r;cases r;rfl
 |k::ks,vs,us,⟨v,t,e,q,e2⟩,r=>by
  subst e;cases r with
  |cons h1 t1=>
   refine⟨_,_,rfl,?_,Ly ok e2 t1⟩;cases k with
   |inl k=>exact Qx q h1
   |inr ys=>obtain⟨b,rfl,q⟩:=q;exact⟨b,Y1 h1,Zr ok q⟩
def W0(ok:HOk P w H h)(q:cm P w (Ii H h) ks b):TkAt H ks b:=by
 obtain⟨o,items,n,e,hc,hd,hi⟩:=q;obtain⟨e1,vs,hb⟩:=C6 e;obtain⟨_,its,r,ob,e2,hc2,n2,hd2⟩:=(show ObjOk P w H h b (.tup vs)from ok b _ hb);rw[e1]at e2;cases e2;rw[hd]at hd2;cases hd2;exact⟨vs,hb,Ly ok (by simpa using hi) r⟩
theorem Dw(hp:∀k b,cm P w h0 k b->TkAt H k b):∀{us:List aH}{kz:List bf},KeysIn P w h0 us kz->∃vs,Vals vs us/\DenL K (gT G H) (kz.map kT) vs
 |[],kz,e=>by rw[show kz=[]from e];exact⟨[],.nil,rfl⟩
 |_::_,_,⟨k,r,b,e1,e2,q,t⟩=>by
  subst e1 e2;obtain⟨vs,h1,h2⟩:=Dw hp t;exact⟨.ref b::vs,.cons rfl h1,⟨_,_,rfl,Vu (hp k b q),h2⟩⟩
def UU(H:Hp):List V->List bf->Prop
 |[],kz=>kz=[]
 |v::vs,kz=>∃k r b,kz=k::r/\v=.ref b/\TkAt H k b/\UU H vs r
theorem Gx(ok:HOk P w H h):∀{vs:List V}{us:List aH}{kz:List bf},UU H vs kz->Vals vs us->KeysIn P w (Ii H h) us kz
 |[],us,kz,e,r=>by cases r;exact e
 |v::vs,us,kz,⟨k,r',b,e1,e2,q,t⟩,r=>by
  subst e1 e2;cases r with
  |cons h1 t1=>exact⟨k,r',b,rfl,h1,CZ ok q,Gx ok t t1⟩
def k6:List D->Option (List bf)
 |[]=>some []
 |d::ds=>match jg d,k6 ds with
  |some k,some r=>some (k::r)
  |_,_=>none
theorem HH(sg:Same G H):∀{ds:List D}{vs:List V}{kz:List bf},DenL K G ds vs->k6 ds=some kz->UU H vs kz
 |[],vs,kz,dl,e=>by cases e;rw[show vs=[]from dl];rfl
 |d::ds,vs,kz,⟨v,vr,e1,dv,dr⟩,e=>by
  subst e1;unfold k6 at e;cases h1:jg d with
  |none=>rw[h1]at e;cases e
  |some k=>
   cases h2:k6 ds with
   |none=>rw[h1,h2]at e;cases e
   |some r=>
    rw[h1,h2]at e;cases e;cases d with
    |tup es=>
     obtain⟨b,ws,rfl,hb,dw⟩:=dv;exact⟨k,r,b,rfl,rfl,TkAt.mono (λb xs z=>sg b _ z) ⟨ws,hb,C7 dw h1⟩,HH sg dr h2⟩
    |_=>cases h1
noncomputable def og(d:D):Option D:=match d with
 |.lst ds=>(k6 ds).bind λkz=>if(l7 kz).length<=76 then(gx ((l7 kz).map kT)).map .lst else none
 |_=>none
def j0(d:D):Option D:=og d
end
section
variable{X:Cx}
def PR(X:Cx)(H0:Hp)(p:Addr)(T:List bf)(h:Heap):Prop:=∃h0,Sa X.prog X.w h0 h p T/\∀k b,cm X.prog X.w h0 k b->TkAt H0 k b
def BV(X:Cx)(H0:Hp)(p:Addr)(T:List bf):HO:=.ext (PR X H0 p T)
def Yv(X:Cx):List V->Hp->VK->Prop:=λxs H Q=>∃a vs kz,xs=[.ref a]/\SqL X.K H a vs/\UU H vs kz/\(l7 kz).length<=76/\∀p,H p=none->Q (.ref p) (upd H p (BV X H p (l7 kz)))
def Nk(hc:X.calm=true)(hu:X.A.units+12<eD):CallR X (.type "set") (Yv X):=by
 intro pins s U H xs us Q I r q;obtain⟨a,vs,kz,rfl,sq,kv,sm,q⟩:=q;obtain⟨u,rfl,ru⟩:=mj r;cases ru;obtain⟨its,rv,pl,_⟩:=I.list sq;refine Sj (h0:=Ii H s.heap) hu (I.ok.hd hc) pl.isList (by simpa using Gx I.hok kv rv) (λc o e=>(C6 e).1) sm λh' tk hS hk=>?_;refine⟨.ref s.heap.objs.size,_,I.laid (a:=s.heap.objs.size) (o:=BV X H s.heap.objs.size (l7 kz)) (t':=tk) (λb o e=>hk b o (aP e) e) (aR _) ?_,rfl,q _ (I.hok.fresh (aR _))⟩;refine⟨⟨_,hS,λk b z=>W0 I.hok z⟩,?_,λh1 h2 ⟨h0,x,y⟩ k=>⟨h0,?_,y⟩⟩
 ·obtain⟨ks,es,ep,t,g,_⟩:=hS;exact⟨_,g⟩
 ·obtain⟨ks,es,ep,t,g,z⟩:=x;exact⟨ks,es,ep,t,k _ g,z⟩
def Oy(X:Cx):List V->Hp->VK->Prop:=λxs H Q=>∃p T H0 G ds',xs=[.ref p]/\H p=some (BV X H0 p T)/\(∀b ys,H0 b=some (.tup ys)->H b=some (.tup ys))/\Same G H/\T.length<=76/\gx (T.map kT)=some ds'/\∀q vs',H q=none->DenL (kx X) (gT G H) ds' vs'->Q (.ref q) (upd H q (.lst vs'))
def Kj(hu:X.A.units+5<eD)(hc:X.calm=true):CallR X (.builtin "sorted") (Oy X):=by
 intro pins s U H xs us Q I r q;obtain⟨p,T,H0,G,ds',rfl,hp,ht,sg,few,es,q⟩:=q;obtain⟨u,rfl,ru⟩:=mj r;cases ru;obtain⟨⟨h0,hS,hk0⟩,_,_⟩:=I.hok p _ hp;refine Bj (G:=gT G H) hu I (z9 sg).gh (λQ' E' hq=>?_) q;refine Mh (I.ok.hd hc) hS few λd' h' tk vs kz k1 pm ki=>?_;obtain⟨ys,rx,dl⟩:=Dw (K:=kx X) (G:=G) (H:=H) (λk b z=>(hk0 k b z).mono ht) ki;exact hq d' h' tk vs ys (kz.map kT) k1 rx dl (O7 ((pm.map kT).symm) es)
end
section
variable{X:Cx}{B:Hp}{E:EK}{e:Expr}{g:En->Res}{pos p pos' p':Pos}
def O8(sg:Same G H)(ax:Arg (kx X) G H dx x)(ed:og dx=some d)(q:∀v G' H',Ext G H G' H'->Den (kx X) G' d v->Q v H'):
  Yv X [x] H λx H1=>Oy X [x] H1 Q:=by
 cases dx with
 |lst ds=>
  have ed1:((k6 ds).bind λkz=>if(l7 kz).length<=76 then(gx ((l7 kz).map kT)).map D.lst else none)=some d:=ed;cases hk:k6 ds with
  |none=>rw[hk]at ed1;cases ed1
  |some kz=>
   rw[hk]at ed1;have ed2:(if(l7 kz).length<=76 then(gx ((l7 kz).map kT)).map D.lst else none)=some d:=ed1
   by_cases few:(l7 kz).length<=76
   ·rw[aJ few]at ed2;cases e2:gx ((l7 kz).map kT)with
    |none=>rw[e2]at ed2;cases ed2
    |some ds'=>
     rw[e2]at ed2;cases ed2;obtain⟨a,vs,rfl,sq,dl⟩:=ax.lst sg;refine⟨a,vs,kz,rfl,sq,HH sg dl hk,few,λp hp=>?_⟩;have x1:=Ext.own sg (BV X H p (l7 kz)) hp;refine⟨p,l7 kz,H,G,ds',rfl,bp,λb ys e=>?_,x1.gh,few,e2,λq' vs' hq' d'=>?_⟩
     ·rw[aq (bj e hp)];exact e
     ·have x2:=z9 x1.gh;exact q _ _ _ (x1.trans (x2.trans (Ext.new x2.gh (.lst vs') hq'))) (uh x2.gh hq' d')
   ·rw[aK few]at ed2;cases ed2
 |_=>cases ed
def T5(hu:X.A.units+12<eD)(hc:X.calm=true)(hg:Gl X "sorted")(hm:X.mg "sorted"=none)(hg':Gl X "set")(hm':X.mg "set"=none)(ha:jq X B E e g)(he:bF [e] X.env=(false,eval e X.env)::bF [] X.env):
  gj X B E (.Call (.Name "sorted" p) [.Call (.Name "set" p') [e] [] pos'] [] pos) (g1 og g):=
 PE.imp (n9 (Kj (by lia) hc) hg hm PyProof.Rows.boot_sorted (vj (m5 (Nk hc hu) hg' hm' PyProof.Rows.boot_set (fc ha ip he) (by decide) (by decide) he rfl) Ji rfl) (by decide) (by decide) rfl rfl) λU H Q q=>
  JR (rr:=λxs H Q=>Yv X xs H λx H1=>Oy X [x] H1 Q) (λG H x dx d sg ax ed Q q=>O8 sg ax ed q) q
end
def Ei:D->D->Option D:=M6 λi j=>some (.int (if j<i then j else i))
def Jm:D->D->Option D:=M6 λi j=>some (.int (if j>i then j else i))
section
variable{X:Cx}{B:Hp}{E:EK}{a b:Expr}{g h:En->Res}{pos p:Pos}
def MF(f:Int->Int->Int):List V->Hp->VK->Prop:=λxs H Q=>∃i j,xs=[.int i,.int j]/\Q (.int (f i j)) H
def Sf(hc:X.calm=true):CallR X (.builtin "max") (MF λi j=>if j>i then j else i):=by
 intro pins s U H xs us Q I r q;obtain⟨i,j,rfl,q⟩:=q;obtain⟨u,v,rfl,⟨t,rfl⟩,⟨t',rfl⟩⟩:=Z6 r;refine max_two_ints (I.ok.hd hc) λh' tk hk=>⟨.int (if j>i then j else i),H,I.kept hk,?_,q⟩
 by_cases c:j>i
 ·rw[aJ c,aJ c];exact⟨_,rfl⟩
 ·rw[aK c,aK c];exact⟨_,rfl⟩
def Si(hc:X.calm=true):CallR X (.builtin "min") (MF λi j=>if j<i then j else i):=by
 intro pins s U H xs us Q I r q;obtain⟨i,j,rfl,q⟩:=q;obtain⟨u,v,rfl,⟨t,rfl⟩,⟨t',rfl⟩⟩:=Z6 r;refine min_two_ints (I.ok.hd hc) λh' tk hk=>⟨.int (if j<i then j else i),H,I.kept hk,?_,q⟩
 by_cases c:j<i
 ·rw[aJ c,aJ c];exact⟨_,rfl⟩
 ·rw[aK c,aK c];exact⟨_,rfl⟩
def SG{K:KA}{f:Int->Int->Int}{U:St}{H:Hp}{Q:VK}(q:OK K B E (g2 (M6 λi j=>some (.int (f i j))) g h) U H Q):UQ (MF f) (XJ K B E [true,true] (aa g (aa h ah))) U H Q:=by
 obtain⟨G,W,R,q⟩:=q;refine⟨G,W,R,?_⟩;unfold aa ah;cases eg:g W with
 |ok x=>
  cases eh:h W with
  |ok y=>
   have q':ResP E G H (Res.of (M6 (λi j=>some (.int (f i j))) x y)) λd=>∀v G' H',Ext G H G' H'->Den K G' d v->Q v H':=by
    have e:g2 (M6 λi j=>some (.int (f i j))) g h W=Res.of (M6 (λi j=>some (.int (f i j))) x y):=by unfold g2;rw[eg,eh];rfl
    rw[e]at q;exact q
   obtain⟨d,ed,qd⟩:=ResP.of q';intro vs G' H' e1 al;obtain⟨d1,dr,v1,vr,z1,rfl,a1,d2,dr2,v2,vr2,z2,rfl,a2,z3,rfl⟩:=al;cases z1;cases z2;cases x with
   |int i=>
    cases y with
    |int j=>
     cases ed;exact⟨i,j,by rw[Arg.int a1,Arg.int a2],qd _ G' H' e1 rfl⟩
    |_=>cases ed
   |_=>cases ed
  |er c=>
   have e:g2 (M6 λi j=>some (.int (f i j))) g h W=.er c:=by unfold g2;rw[eg,eh];rfl
   rw[e]at q;exact q
  |st=>
   have e:g2 (M6 λi j=>some (.int (f i j))) g h W=.st:=by unfold g2;rw[eg,eh];rfl
   rw[e]at q;exact q
 |er c=>
  have e:g2 (M6 λi j=>some (.int (f i j))) g h W=.er c:=by unfold g2;rw[eg];rfl
  rw[e]at q;exact q
 |st=>
  have e:g2 (M6 λi j=>some (.int (f i j))) g h W=.st:=by unfold g2;rw[eg];rfl
  rw[e]at q;exact q
def EG(hc:X.calm=true)(hg:Gl X "max")(hm:X.mg "max"=none)(ha:jq X B E a g)(hb:jq X B E b h)(he:bF [a,b] X.env=(false,eval a X.env)::bF [b] X.env)(he2:bF [b] X.env=(false,eval b X.env)::bF [] X.env):
  gj X B E (.Call (.Name "max" p) [a,b] [] pos) (g2 Jm g h):=
 PE.imp (n9 (Sf hc) hg hm (by rfl) (fc ha (fc hb ip he2) he) (by decide) (by decide) he (by rw[he2];rfl)) λU H Q q=>SG q
def ED(hc:X.calm=true)(hg:Gl X "min")(hm:X.mg "min"=none)(ha:jq X B E a g)(hb:jq X B E b h)(he:bF [a,b] X.env=(false,eval a X.env)::bF [b] X.env)(he2:bF [b] X.env=(false,eval b X.env)::bF [] X.env):
  gj X B E (.Call (.Name "min" p) [a,b] [] pos) (g2 Ei g h):=
 PE.imp (n9 (Si hc) hg hm (by rfl) (fc ha (fc hb ip he2) he) (by decide) (by decide) he (by rw[he2];rfl)) λU H Q q=>SG q
end
def WW(K:bA)(a:Addr):It:=
 ⟨λi H=>∃xs x,SqL K H a xs/\xs[i]?=some x,λi H v H'=>∃p x,H p=none/\v=.ref p/\H'=upd H p (.tup [.int (i:Int),x])/\∀xs,SqL K H a xs->xs[i]?=some x,λi H=>∃xs,SqL K H a xs/\xs.length<=i⟩
def ZH(e it a:Addr)(i:Nat)(h:Heap):Prop:=(∃old,nF h e it (i:Int) old)/\h.IsListIter it a i
def Up{P:bQ}{w:cF}{K:bA}{tes:List Expr}{k1}{tp:Pos}(a e it:Addr)(hne:e≠it):Turn P w K (.Tuple tes k1 tp) (WW K a) [e,it] e (ZH e it a) where
 mem:=by simp
 obj:=λi h st b hb=>by
  obtain⟨⟨old,he⟩,o,ho,hc,hd⟩:=st;rcases List.mem_cons.mp hb with rfl|hb
  ·exact⟨_,he,λv z=>by
    have z':pF _=oC v:=z;cases z'⟩
  ·have e:b=it:=by simpa using hb
   subst e;exact⟨o,ho,λv z=>by rw[hd]at z;cases z⟩
 keep:=λi h h' st k=>⟨let ⟨old,he⟩:=st.1;⟨old,k e (by simp) _ he⟩,st.2.at λo q=>k it (by simp) o q⟩
 item:=by
  intro X hP hw hK hc i pins s U H E I hf st hg;subst hP hw hK;obtain⟨xs,x,hq,hx⟩:=hg;obtain⟨its,rv,p,hz⟩:=I.list hq;obtain⟨u,hu,ru⟩:=rv.get hx;obtain⟨⟨old,he⟩,hit⟩:=st;obtain⟨f0,f1,f2,f3,f4,f5⟩:=hf e (by simp);obtain⟨g0,g1,g2,g3,g4,g5⟩:=hf it (by simp);have mG:H s.heap.objs.size=none:=I.hok.fresh (aR _);have elt:e<s.heap.objs.size:=aP he;refine wpAny_pyNext_enum_item he hit p.isList (x:=u) (by simpa using hu) hne λh1 he1 hit1 ht1 hz1 hk1=>?_;refine⟨_,rfl,wpAny_letOwnedTupleGo_enum he1 λh2 he2 sb=>?_⟩;have sb':cJ e h1 h2:=sb;have k2:∀b o,b≠e->b≠it->s.heap.get? b=some o->h2.get? b=some o:=λb o h1' h2' q=>sb'.extBut b o h1' (hk1 b o h1' h2' q);have t2:h2.get? s.heap.objs.size=some {cls:=.type "tuple",data:=.seq #[.int (i:Int) s.toks,u]}:=sb'.extBut _ _ (eK elt) ht1;have old':∀{b:Addr}{o:HO},H b=some o->b≠s.heap.objs.size/\b≠e/\b≠it:=λ{b o} q=>⟨bj q mG,bj q f0,bj q g0⟩;have ch:∀b,b∉[e,it]->b≠e/\b≠it:=λb hb=>by simpa using hb
  have I2:Inv X pins U (upd H s.heap.objs.size (.tup [.int (i:Int),x])) {s with heap:=h2,toks:=s.toks+1}:=by
   refine I.step (g':=s.gens) (d':=s.drawn) (ch:=[e,it]) (λb hb=>?_) (λb o _ _ hc q _=>k2 b o (ch b hc).1 (ch b hc).2 q) (λb o _ _ hc q _=>⟨o.slots,k2 b o (ch b hc).1 (ch b hc).2 q⟩) (λb o _ q n=>?_) (λb o hc q=>⟨o,k2 b o (ch b hc).1 (ch b hc).2 q⟩)
    (λb ys q=>by rw[aq (old' q).1];exact q) (λb o v q=>by rw[aq (old' q).1];exact q) (λb y q=>by rw[aq (old' q).1];exact q) (λm hm=>?_) (λb v q=>?_) I.bare
   ·rcases List.mem_cons.mp hb with rfl|hb
    ·exact⟨f3,f1,f4,f5⟩
    ·have z:b=it:=by simpa using hb
     subst z;exact⟨g3,g1,g4,g5⟩
   ·rw[aq (bH (aP q))];exact n
   ·obtain⟨o,es,ep,ho,r⟩:=hm;exact⟨o,es,ep,k2 _ o (dX f1) (dX g1) ho,r⟩
   ·by_cases hb:b=s.heap.objs.size
    ·subst hb;rw[bp]at q;cases q;exact⟨by rw[eU];simp,[.int (i:Int) s.toks,u],.cons ⟨_,rfl⟩ (.cons ru .nil),_,t2,rfl,0,rfl⟩
    ·rw[aq hb]at q;refine(I.hok b v q).stay (λb' v' hb' r=>k2 b' v' ?_ ?_ r) (λb' z=>by rw[aq (old' z).1];exact z) (λb' ys z=>by rw[aq (old' z).1];exact z) λb' o' u' z=>by rw[aq (old' z).1];exact z
     ·rcases hb' with z|z
      ·rw[z];exact(old' q).2.1
      ·exact(old' z).2.1
     ·rcases hb' with z|z
      ·rw[z];exact(old' q).2.2
      ·exact(old' z).2.2
  refine⟨.ref s.heap.objs.size,_,I2,rfl,⟨_,x,mG,rfl,rfl,λys hy=>by rw[I.list_inj hy hq];exact hx⟩,⟨⟨u,?_⟩,?_⟩,λb hb=>?_⟩
  ·have:((i+1:Nat):Int)=(i:Int)+1:=by push_cast;rfl
   rw[this];exact he2
  ·exact hit1.at λo q=>sb'.extBut it o (dX hne) q
  ·have z:=(hf b hb).1;have:b<s.heap.objs.size:=by
    rcases List.mem_cons.mp hb with rfl|hb
    ·exact elt
    ·have z:b=it:=by simpa using hb
     subst z;obtain⟨o,ho,_⟩:=hit;exact aP ho
   rw[aq (bH this)];exact z
 done:=by
  intro X hP hw hK hc i pins s U H E I hf st hg;subst hP hw hK;obtain⟨xs,hq,hx⟩:=hg;obtain⟨its,rv,p,hz⟩:=I.list hq;obtain⟨⟨old,he⟩,hit⟩:=st;obtain⟨g0,g1,g2,g3,g4,g5⟩:=hf it (by simp);have hl:=rv.length;exact wpAny_pyNext_enum_end (I.ok.hd hc) he hit p.isList (by simp;lia) λh' eb=>⟨rfl,I.turned (t':=s.toks) (λb o hb e=>eb b o hb e) g0 g1 g3 g4 g5⟩
 self:=λ_ _ _ _ _ st h=>let ⟨_,he⟩:=st.1;lS he h
def mf:Nat->List D->List D
 |_,[]=>[]
 |i,d::r=>.tup [.int (i:Int),d]::mf (i+1) r
theorem va:∀(i:Nat)(ds:List D),(mf i ds).length=ds.length
 |_,[]=>rfl
 |i,d::r=>by rw[mf,aL,aL,va]
theorem zz:∀(i j:Nat)(ds:List D),(mf i ds)[j]?=(ds[j]?).map λd=>.tup [.int ((i+j:Nat):Int),d]
 |_,_,[]=>by simp[mf]
 |i,0,d::r=>by simp[mf]
 |i,j+1,d::r=>by
  rw[mf,dU,dU,zz (i+1) j r];rw[show i+1+j=i+(j+1) by lia]
section
variable{X:Cx}{B:Hp}{E:EK}{e:Expr}{g:En->Res}{pos p tp:Pos}{tes:List Expr}{k1:Nat}
def Wr{K:KA}{a:Addr}{G1:Hp}{ds:List D}{vs:List V}{S:Hp->Hp->Prop}(h:∀G H,S G H->Same G H->SqL K H a vs/\Same G1 G)(dl:DenL K G1 ds vs):zi K (WW K a) (mf 0 ds) S:=λi G H hS sg=>by
 obtain⟨q,g⟩:=h G H hS sg;refine⟨λd ed=>?_,λhl=>⟨vs,q,by rw[va]at hl;rw[<-dl.length];exact hl⟩⟩;rw[zz,lQ]at ed;cases e0:ds[i]? with
 |none=>rw[e0]at ed;cases ed
 |some d0=>
  rw[e0]at ed;cases ed;obtain⟨v,ev,dv⟩:=dl.get e0;refine⟨⟨vs,v,q,ev⟩,λx H' ⟨p,y,hp,e1,e2,e3⟩=>?_⟩;subst e1 e2;have z:=e3 vs q;rw[ev]at z;cases z;exact⟨_,Ext.new sg (.tup [.int (i:Int),v]) hp,nj sg hp (DenL.append (DenL.one (d:=.int (i:Int)) rfl) (DenL.one (dv.mono g)))⟩
end
section
variable{prog:bQ}{w:cF}{A:cS}{E:aH->aN->Prop}{s:aN}
def jv{items}(hit:fV s.heap it t i)(ht:jN s.heap t items)(hx:items[i]?=some x)
  (hQ:∀h',fV h' it t (i+1)->cJ it s.heap h'->Q x {s with heap:=h'}):aQ (bI prog w) A (dG (.ref it)) Q E s:=by
 obtain⟨o,ho,hc,hd⟩:=id hit;obtain⟨ol,hol,_,nl,hdl⟩:=ht;unfold dG;refine aA (cA (name:=dJ "__next__") hit.typeIs kP (bW kP hit.typeIs entry_tupleiter_next ?_ (args_tupleiter_next _)));show aQ _ _ (field (.ref it) 0>>=_) _ _ s;refine aA (cQ ho hd (x:=.ref t) rfl ?_);show aQ _ _ (if(bX t==bU)=true then _ else _) _ _ s;rw[aK (show¬((bX t==bU)=true)from Bool.false_ne_true)];show aQ _ _ (field (.ref it) 1>>=_) _ _ s;refine aA (cQ ho hd (x:=.int i 0) rfl ?_);show aQ _ _ (mY (.ref t)>>=_) _ _ s;refine aA (cL hol hdl ?_);simp only[dY,hx];refine aA (eE ho hd (by simp) (aB ⟨x,rfl,aB (hQ _ ?_ (cX ..))⟩));exact⟨_,cG _ ho (jK (fO hd _)),(nQ ..).trans hc,by
  rw[fO hd];simp[cE]⟩
def n6{items}(hh:A.handled=none)(hit:fV s.heap it t i)(ht:jN s.heap t items)(hx:items[i]?=none)
  (hE:∀h' e,nT it s.heap h'->(∃o,h'.get? e=some o/\o.cls=.type "StopIteration")->E (.ref e) {s with heap:=h'}):aQ (bI prog w) A (dG (.ref it)) Q E s:=by
 obtain⟨o,ho,hc,hd⟩:=id hit;obtain⟨ol,hol,_,nl,hdl⟩:=ht;unfold dG;refine aA (cA (name:=dJ "__next__") hit.typeIs kP (bW kP hit.typeIs entry_tupleiter_next ?_ (args_tupleiter_next _)));show aQ _ _ (field (.ref it) 0>>=_) _ _ s;refine aA (cQ ho hd (x:=.ref t) rfl ?_);show aQ _ _ (if(bX t==bU)=true then _ else _) _ _ s;rw[aK (show¬((bX t==bU)=true)from Bool.false_ne_true)];show aQ _ _ (field (.ref it) 1>>=_) _ _ s;refine aA (cQ ho hd (x:=.int i 0) rfl ?_);show aQ _ _ (mY (.ref t)>>=_) _ _ s;refine aA (cL hol hdl ?_);simp only[dY,hx];refine aA (iG (aA (eE ho hd (by simp) ?_)));show aQ _ _ (newExc (.type "StopIteration") []>>=_) _ _ _;refine aA ?_;simp only[newExc,newTuple];refine aA (cD ?_ (by size_fits));refine aA (m:=gS _ _) (lF (a:=bU) (by first|rfl|(simp only[gS];rfl)) ?_);refine cD ?_ (by size_fits);simp only[pG];refine aA (nX ?_)
 first|rw[show A.in1.handled=none from hh]|rw[hh]
 refine aA (aB (pH ?_));exact hE _ _ (((cX ..).extBut.push _).push _) ⟨_,aT _ rfl,rfl⟩
structure ZAt(h:Heap)(z TI TO i1 i2 l1 l2 k:Nat)(f0:aH):Prop where
 hz:IsZip h z TI TO f0
 hI:pI h TI (.ref i1) (.ref i2)
 hO:∃a b,pI h TO a b
 h1:fV h i1 l1 k
 h2:fV h i2 l2 k
def Uz{z TI TO i1 i2 l1 l2 k:Nat}{xs ys:Array aH}{x y:aH}{Q:Option aH->aN->Prop}(D:ZipApart z TI TO i1 i2 l1 l2)(Z:ZAt s.heap z TI TO i1 i2 l1 l2 k .none)
  (hl1:jN s.heap l1 xs)(hl2:jN s.heap l2 ys)(hx:xs[k]?=some x)(hy:ys[k]?=some y)
  (hQ:∀h',ZAt h' z TI TO i1 i2 l1 l2 (k+1) (cE s.heap.objs.size)->pI h' s.heap.objs.size x y->h'.objs.size=s.heap.objs.size+1->
   (∀c o,c≠z->c≠TO->c≠i1->c≠i2->s.heap.get? c=some o->h'.get? c=some o)->Q (some (.ref s.heap.objs.size)) {s with heap:=h'}):
  aQ (bI prog w) A (fH (.ref z)) Q E s:=by
 obtain⟨hz,hTI,⟨a,b,hTO⟩,h1,h2⟩:=Z;have hT:s.TypeIs (.ref z) "zip":=⟨_,hz,rfl⟩;unfold fH;refine aA (fS (cA (name:=dJ "__next__") hT mR (bW mR hT F.entry_zip_next ?_ (F.args_zip_next_1 _))));show aQ _ _ (field (.ref z) 2>>=_) _ _ _;refine aA (cQ hz rfl (x:=.bool false) rfl ?_);show aQ _ _ (field (.ref z) 3>>=_) _ _ _;refine aA (cQ hz rfl (x:=.ref TI) rfl ?_);refine aA (cL hTI rfl ?_);show aQ _ _ (cZ (.ref z)>>=_) _ _ _;refine aA ?_;unfold cZ;refine aA (cQ hz rfl (x:=.none) rfl (aB ?_));simp only[if_true];refine aA (iG ?_);refine aA (cQ hz rfl (x:=.ref TO) rfl ?_);refine aA (dP hz (by simp) λg1 z1 s1=>?_);replace z1:IsZip g1 z TI TO .ellipsis:=z1;refine aA ?_;simp only[List.zipIdx_cons,List.zipIdx_nil,oX,List.forIn_nil];refine aA (aA (oA ?_));show aQ _ _ (dG (.ref i1)>>=_) _ _ _;refine aA (jv (h1.extBut s1.extBut D.i1z) (hl1.extBut s1.extBut D.l1z) hx λg2 p2 s2=>aB ?_);have t2:pI g2 TO a b:=s2.extBut _ _ D.TOi1 (s1.extBut _ _ D.TOz hTO);refine aA (cL t2 rfl ?_);refine aA (mK t2 λg3 t3 s3=>?_);replace t3:pI g3 TO x b:=t3;refine aA (kG (aB ?_));refine aA (aA (oA ?_));show aQ _ _ (dG (.ref i2)>>=_) _ _ _;refine aA (jv (((h2.extBut s1.extBut D.i2z).extBut s2.extBut D.i12.symm).extBut s3.extBut D.TOi2.symm) (((hl2.extBut s1.extBut D.l2z).extBut s2.extBut D.l2i1).extBut s3.extBut D.l2TO) hy λg4 p4 s4=>aB ?_);have t4:pI g4 TO x b:=s4.extBut _ _ D.TOi2 t3;refine aA (cL t4 rfl ?_);refine aA (mK t4 λg5 t5 s5=>?_);replace t5:pI g5 TO x y:=t5;refine aA (kG (aB (aB ?_)));refine aA (cL t5 rfl ?_);refine aA (nC ?_);have sz:g5.objs.size=s.heap.objs.size:=by rw[s5.1,s4.1,s3.1,s2.1,s1.1]
 have k5:∀c o,c≠z->c≠TO->c≠i1->c≠i2->s.heap.get? c=some o->g5.get? c=some o:=λc o c1 c2 c3 c4 e=>s5.extBut _ _ c2 (s4.extBut _ _ c4 (s3.extBut _ _ c2 (s2.extBut _ _ c3 (s1.extBut _ _ c1 e))));have z5:IsZip g5 z TI TO .ellipsis:=s5.extBut _ _ D.TOz.symm (s4.extBut _ _ D.i2z.symm (s3.extBut _ _ D.TOz.symm (s2.extBut _ _ D.i1z.symm z1)));have q1:fV g5 i1 l1 (k+1):=((p2.extBut s3.extBut D.TOi1.symm).extBut s4.extBut D.i12).extBut s5.extBut D.TOi1.symm;have q2:fV g5 i2 l2 (k+1):=p4.extBut s5.extBut D.TOi2.symm;have zlt:z<g5.objs.size:=aP z5;show aQ _ _ (eS (.ref z) (.ref g5.objs.size)>>=_) _ _ _;refine aA ?_;unfold eS;have z6:IsZip (g5.push {cls:=.type "tuple",data:=.seq #[x,y]}) z TI TO .ellipsis:=aC _ z5;refine aA (dP z6 (by simp) λg7 z7 s7=>?_);replace z7:IsZip g7 z TI TO (cE g5.objs.size):=z7;refine dP z7 (by simp) λg8 z8 s8=>?_;replace z8:IsZip g8 z TI TO (cE g5.objs.size):=z8;have up:∀c o,c≠z->g5.get? c=some o->g8.get? c=some o:=λc o c1 e=>s8.extBut _ _ c1 (s7.extBut _ _ c1 (aC _ e));have t8:pI g8 g5.objs.size x y:=s8.extBut _ _ (eK zlt) (s7.extBut _ _ (eK zlt) (aT _ rfl));have n8:g8.objs.size=g5.objs.size+1:=by rw[s8.1,s7.1,dB]
 rw[sz]at z8 t8 n8;refine aB ⟨_,rfl,aB ?_⟩;show Q (some (.ref g5.objs.size)) _;rw[sz];exact hQ g8 ⟨z8,up _ _ D.TIz (k5 _ _ D.TIz D.TITO D.TIi1 D.TIi2 hTI),⟨x,y,up _ _ D.TOz t5⟩,let ⟨o,e,r⟩:=q1;⟨o,up _ o D.i1z e,r⟩,let ⟨o,e,r⟩:=q2;⟨o,up _ o D.i2z e,r⟩⟩ t8 n8 λc o c1 c2 c3 c4 e=>up c o c1 (k5 c o c1 c2 c3 c4 e)
def AW{z TI TO i1 i2 l1 l2 k:Nat}{xs ys:Array aH}{Q:Option aH->aN->Prop}(hh:A.handled=none)(D:ZipApart z TI TO i1 i2 l1 l2)(Z:ZAt s.heap z TI TO i1 i2 l1 l2 k .none)
  (hl1:jN s.heap l1 xs)(hl2:jN s.heap l2 ys)(hend:xs[k]?=none\/ys[k]?=none)
  (hQ:∀h',(∀c o,c≠z->c≠TO->c≠i1->c≠i2->s.heap.get? c=some o->h'.get? c=some o)->Q none {s with heap:=h'}):aQ (bI prog w) A (fH (.ref z)) Q E s:=by
 obtain⟨hz,hTI,⟨a,b,hTO⟩,h1,h2⟩:=Z;have hT:s.TypeIs (.ref z) "zip":=⟨_,hz,rfl⟩;have fin:∀h' e,(∀c o,c≠z->c≠TO->c≠i1->c≠i2->s.heap.get? c=some o->h'.get? c=some o)->(∃o,h'.get? e=some o/\o.cls=.type "StopIteration")->aQ (bI prog w) A (do if(<-isInstance (.ref e) (.type "StopIteration"))then pure (Option.none:Option aH)else throw (.ref e)) Q E {s with heap:=h'}:=λh' e hk ⟨o,ho,hc⟩=>
  aA (fB (T:="StopIteration") (b:=true) ⟨o,ho,hc⟩ lP (aB (hQ _ hk)))
 unfold fH;refine aA (fS (cA (name:=dJ "__next__") hT mR (bW mR hT F.entry_zip_next ?_ (F.args_zip_next_1 _))));show aQ _ _ (field (.ref z) 2>>=_) _ _ _;refine aA (cQ hz rfl (x:=.bool false) rfl ?_);show aQ _ _ (field (.ref z) 3>>=_) _ _ _;refine aA (cQ hz rfl (x:=.ref TI) rfl ?_);refine aA (cL hTI rfl ?_);show aQ _ _ (cZ (.ref z)>>=_) _ _ _;refine aA ?_;unfold cZ;refine aA (cQ hz rfl (x:=.none) rfl (aB ?_));simp only[if_true];refine aA (iG ?_);refine aA (cQ hz rfl (x:=.ref TO) rfl ?_);refine aA (dP hz (by simp) λg1 z1 s1=>?_);replace z1:IsZip g1 z TI TO .ellipsis:=z1;refine aA ?_;simp only[List.zipIdx_cons,List.zipIdx_nil,oX,List.forIn_nil];refine aA (aA (oA ?_));show aQ _ _ (dG (.ref i1)>>=_) _ _ _;cases hx:xs[k]? with
 |none=>
  refine aA (n6 hh (h1.extBut s1.extBut D.i1z) (hl1.extBut s1.extBut D.l1z) hx λg2 e s2 he=>?_);obtain⟨oe,hoe,hce⟩:=he;have z2:IsZip g2 z TI TO .ellipsis:=s2 _ _ D.i1z.symm z1;have ez:e≠z:=λx=>by subst x;rw[z2]at hoe;cases hoe;simp at hce
  refine dP z2 (by simp) λg3 _ s3=>?_;exact fin g3 e (λc o c1 _ c3 _ x=>s3.extBut _ _ c1 (s2 _ _ c3 (s1.extBut _ _ c1 x))) ⟨oe,s3.extBut _ _ ez hoe,hce⟩
 |some x=>
  have hy:ys[k]?=none:=by rcases hend with h|h;rw[hx]at h;cases h;exact h
  refine aA (jv (h1.extBut s1.extBut D.i1z) (hl1.extBut s1.extBut D.l1z) hx λg2 p2 s2=>aB ?_);have t2:pI g2 TO a b:=s2.extBut _ _ D.TOi1 (s1.extBut _ _ D.TOz hTO);refine aA (cL t2 rfl ?_);refine aA (mK t2 λg3 t3 s3=>?_);refine aA (kG (aB ?_));refine aA (aA (oA ?_));show aQ _ _ (dG (.ref i2)>>=_) _ _ _;refine aA (n6 hh (((h2.extBut s1.extBut D.i2z).extBut s2.extBut D.i12.symm).extBut s3.extBut D.TOi2.symm) (((hl2.extBut s1.extBut D.l2z).extBut s2.extBut D.l2i1).extBut s3.extBut D.l2TO) hy λg4 e s4 he=>?_);obtain⟨oe,hoe,hce⟩:=he;have z4:IsZip g4 z TI TO .ellipsis:=s4 _ _ D.i2z.symm (s3.extBut _ _ D.TOz.symm (s2.extBut _ _ D.i1z.symm z1));have ez:e≠z:=λx=>by subst x;rw[z4]at hoe;cases hoe;simp at hce
  refine dP z4 (by simp) λg5 _ s5=>?_;exact fin g5 e (λc o c1 c2 c3 c4 x=>s5.extBut _ _ c1 (s4 _ _ c4 (s3.extBut _ _ c2 (s2.extBut _ _ c3 (s1.extBut _ _ c1 x))))) ⟨oe,s5.extBut _ _ ez hoe,hce⟩
end
section
variable{prog:bQ}{w:cF}{A:cS}{E:aH->aN->Prop}{s:aN}
def Wp(l:Addr):Obj:={cls:=.type "tuple_iterator",data:=.fields #[.ref l,.int 0 0]}
def VA(h:Heap):Obj:={cls:=.type "tuple",data:=.seq #[.ref h.objs.size,.ref (h.objs.size+1)]}
def YW:Obj:={cls:=.type "tuple",data:=.seq #[.none,.none]}
noncomputable def ZR(h:Heap):Obj:={cls:=.type "zip",data:=.fields #[.none,.bool false,.bool false,.ref (h.objs.size+2),.ref (h.objs.size+3)]}
def zH(h:Heap)(l1 l2:Addr):Heap:=((((h.push (Wp l1)).push (Wp l2)).push (VA h)).push YW).push (ZR h)
def Oh(l1 l2:Addr)(xs ys:Array aH):
  Meets (Builtin.«zip.__new__» ⟨[.type "zip",.ref l1,.ref l2],[]⟩) (λ_ R s=>jN s.heap l1 xs/\jN s.heap l2 ys/\
   R (.ok (.ret (.ref (s.heap.objs.size+4)))) {s with heap:=zH s.heap l1 l2}):=
 .of_wp λprog w A R s h=>by
  obtain⟨hp,g,d,tk,os⟩:=s;obtain⟨hl1,hl2,h⟩:=h;have hsub:=sub_zip;have hL1:jN (Shared.heap ⟨hp,g,d,tk,os⟩) l1 xs:=hl1;have hL2:jN (Shared.heap ⟨hp.push {cls:=.type "tuple_iterator",data:=.fields #[.ref l1,.int 0 0]},g,d,tk,os⟩) l2 ys:=IsTup.push hl2 _
  wp_walk using oU hL1,oU hL2
  refine⟨_,rfl,?_⟩;simp only[dB];exact h
def Sk(hl1:jN s.heap l1 xs)(hl2:jN s.heap l2 ys)
  (h:∀h',ZAt h' (s.heap.objs.size+4) (s.heap.objs.size+2) (s.heap.objs.size+3) s.heap.objs.size (s.heap.objs.size+1) l1 l2 0 .none->h'.objs.size=s.heap.objs.size+5->(∀c o,s.heap.get? c=some o->h'.get? c=some o)->Q (.ref (s.heap.objs.size+4)) {s with heap:=h'}):
  aQ (bI prog w) A (call (.type "zip") [.ref l1,.ref l2]) Q E s:=by
 refine callType_new F.called_zip (by decide) (F.typeCall_zip_2 _ _) (F.newCall_zip_2 _ _) (λobj=>F.args_object_init_3 obj _ _) F.entry_zip_new (Oh l1 l2 xs ys) ⟨hl1,hl2,?_⟩;have n1:(s.heap.push (Wp l1)).objs.size=s.heap.objs.size+1:=dB ..;have n2:((s.heap.push (Wp l1)).push (Wp l2)).objs.size=s.heap.objs.size+2:=by rw[dB,n1]
 have n3:(((s.heap.push (Wp l1)).push (Wp l2)).push (VA s.heap)).objs.size=s.heap.objs.size+3:=by rw[dB,n2]
 have n4:((((s.heap.push (Wp l1)).push (Wp l2)).push (VA s.heap)).push YW).objs.size=s.heap.objs.size+4:=by rw[dB,n3]
 have n5:(zH s.heap l1 l2).objs.size=s.heap.objs.size+5:=by unfold zH;rw[dB,n4]
 have g5:(zH s.heap l1 l2).get? (s.heap.objs.size+4)=some (ZR s.heap):=by rw[<-n4];exact aT _ rfl
 have g4:(zH s.heap l1 l2).get? (s.heap.objs.size+3)=some YW:=by rw[<-n3];exact aC _ (aT _ rfl)
 have g3:(zH s.heap l1 l2).get? (s.heap.objs.size+2)=some (VA s.heap):=by rw[<-n2];exact aC _ (aC _ (aT _ rfl))
 have g2:(zH s.heap l1 l2).get? (s.heap.objs.size+1)=some (Wp l2):=by rw[<-n1];exact aC _ (aC _ (aC _ (aT _ rfl)))
 have g1:(zH s.heap l1 l2).get? s.heap.objs.size=some (Wp l1):=aC _ (aC _ (aC _ (aC _ (aT _ rfl))));exact⟨⟨_,g5,rfl⟩,h _ ⟨g5,g3,⟨_,_,g4⟩,⟨_,g1,rfl,rfl⟩,⟨_,g2,rfl,rfl⟩⟩ n5 λc o x=>aC _ (aC _ (aC _ (aC _ (aC _ x))))⟩
end
def WT(K:bA)(l m:Addr):It:=
 ⟨λi H=>∃xs ys x y,SqT K H l xs/\SqT K H m ys/\xs[i]?=some x/\ys[i]?=some y,λi H v H'=>∃p x y,H p=none/\v=.ref p/\H'=upd H p (.tup [x,y])/\(∀xs,SqT K H l xs->xs[i]?=some x)/\∀ys,SqT K H m ys->ys[i]?=some y,λi H=>∃xs ys,SqT K H l xs/\SqT K H m ys/\(xs.length<=i\/ys.length<=i)⟩
def ZAt.at{h h':Heap}{z TI TO i1 i2 l1 l2 k:Nat}{f0:aH}(Z:ZAt h z TI TO i1 i2 l1 l2 k f0)(e:∀b∈[z,TI,TO,i1,i2],∀o,h.get? b=some o->h'.get? b=some o):ZAt h' z TI TO i1 i2 l1 l2 k f0:=
 ⟨e z (by simp) _ Z.hz,e TI (by simp) _ Z.hI,let ⟨a,b,q⟩:=Z.hO;⟨a,b,e TO (by simp) _ q⟩,let ⟨o,q,r⟩:=Z.h1;⟨o,e i1 (by simp) o q,r⟩,let ⟨o,q,r⟩:=Z.h2;⟨o,e i2 (by simp) o q,r⟩⟩
def ZAt.there{h:Heap}{z TI TO i1 i2 l1 l2 k:Nat}{f0:aH}(Z:ZAt h z TI TO i1 i2 l1 l2 k f0):∀b∈[z,TI,TO,i1,i2],∃o,h.get? b=some o/\∀v,o.data≠.cell v:=λb hb=>by
 obtain⟨hz,hI,⟨a,c,hO⟩,⟨o1,q1,_,d1⟩,⟨o2,q2,_,d2⟩⟩:=Z;have:b=z\/b=TI\/b=TO\/b=i1\/b=i2:=by simpa using hb
 rcases this with rfl|rfl|rfl|rfl|rfl
 ·exact⟨_,hz,λv z=>by have z':pF _=oC v:=z;cases z'⟩
 ·exact⟨_,hI,λv z=>by have z':Data.seq _ _=oC v:=z;cases z'⟩
 ·exact⟨_,hO,λv z=>by have z':Data.seq _ _=oC v:=z;cases z'⟩
 ·exact⟨_,q1,λv z=>by rw[d1]at z;cases z⟩
 ·exact⟨_,q2,λv z=>by rw[d2]at z;cases z⟩
def Zv{P:bQ}{w:cF}{K:bA}{tes:List Expr}{k1}{tp:Pos}{z TI TO i1 i2 l1 l2:Addr}(D:ZipApart z TI TO i1 i2 l1 l2):Turn P w K (.Tuple tes k1 tp) (WT K l1 l2) [z,TI,TO,i1,i2] z (λi h=>ZAt h z TI TO i1 i2 l1 l2 i .none) where
 mem:=by simp
 obj:=λi h Z=>Z.there
 keep:=λi h h' Z e=>Z.at e
 item:=by
  intro X hP hw hK hc i pins s U H E I hf Z hg;subst hP hw hK;obtain⟨xs,ys,x,y,hq1,hq2,hx,hy⟩:=hg;obtain⟨its,rv,p,hz⟩:=I.tuple hq1;obtain⟨jts,rw',p',hz'⟩:=I.tuple hq2;obtain⟨u,hu,ru⟩:=rv.get hx;obtain⟨v,hv,rv'⟩:=rw'.get hy;have mG:H s.heap.objs.size=none:=I.hok.fresh (aR _);have lts:∀b∈[z,TI,TO,i1,i2],b<s.heap.objs.size:=λb hb=>let ⟨o,q,_⟩:=Z.there b hb;aP q;refine Uz D Z p p' (x:=u) (y:=v) (by simpa using hu) (by simpa using hv) λh1 Z1 t1 n1 e1=>?_;refine⟨_,rfl,wpAny_letOwnedTupleGo_zip Z1.hz λh2 z2 sb=>?_⟩;have sb':cJ z h1 h2:=sb;have ch:∀b,b∉[z,TI,TO,i1,i2]->b≠z/\b≠TI/\b≠TO/\b≠i1/\b≠i2:=λb hb=>by simpa using hb
  have k2:∀b o,b∉[z,TI,TO,i1,i2]->s.heap.get? b=some o->h2.get? b=some o:=λb o hb q=>by
   obtain⟨c1,c2,c3,c4,c5⟩:=ch b hb;exact sb'.extBut b o c1 (e1 b o c1 c3 c4 c5 q)
  have t2:h2.get? s.heap.objs.size=some {cls:=.type "tuple",data:=.seq #[u,v]}:=sb'.extBut _ _ (eK (lts z (by simp))) t1;have old':∀{b:Addr}{o:HO},H b=some o->b≠s.heap.objs.size/\b∉[z,TI,TO,i1,i2]:=λ{b o} q=>⟨bj q mG,λhb=>by
   have:=(hf b hb).1;rw[this]at q;cases q⟩
  have Z2:ZAt h2 z TI TO i1 i2 l1 l2 (i+1) .none:=by
   obtain⟨hz,hI,⟨a,c,hO⟩,⟨o1,q1,r1⟩,⟨o2,q2,r2⟩⟩:=Z1;exact⟨z2,sb'.extBut _ _ D.TIz hI,⟨a,c,sb'.extBut _ _ D.TOz hO⟩,⟨o1,sb'.extBut _ _ D.i1z q1,r1⟩,⟨o2,sb'.extBut _ _ D.i2z q2,r2⟩⟩
  have I2:Inv X pins U (upd H s.heap.objs.size (.tup [x,y])) {s with heap:=h2}:=by
   refine I.step (g':=s.gens) (d':=s.drawn) (t':=s.toks) (ch:=[z,TI,TO,i1,i2]) (λb hb=>?_) (λb o _ _ hc q _=>k2 b o hc q) (λb o _ _ hc q _=>⟨o.slots,k2 b o hc q⟩) (λb o _ q n=>?_) (λb o hc q=>⟨o,k2 b o hc q⟩)
    (λb ys q=>by rw[aq (old' q).1];exact q) (λb o v q=>by rw[aq (old' q).1];exact q) (λb y q=>by rw[aq (old' q).1];exact q) (λm hm=>?_) (λb v' q=>?_) I.bare
   ·obtain⟨f0,f1,f2,f3,f4,f5⟩:=hf b hb;exact⟨f3,f1,f4,f5⟩
   ·rw[aq (bH (aP q))];exact n
   ·obtain⟨o,es,ep,ho,r⟩:=hm;exact⟨o,es,ep,k2 _ o (λhb=>(hf _ hb).2.1 rfl) ho,r⟩
   ·by_cases hb:b=s.heap.objs.size
    ·subst hb;rw[bp]at q;cases q;exact⟨by rw[eU];simp,[u,v],.cons ru (.cons rv' .nil),_,t2,rfl,0,rfl⟩
    ·rw[aq hb]at q;refine(I.hok b v' q).stay (λb' v'' hb' r=>k2 b' v'' ?_ r) (λb' z=>by rw[aq (old' z).1];exact z) (λb' ys z=>by rw[aq (old' z).1];exact z) λb' o' u' z=>by rw[aq (old' z).1];exact z
     rcases hb' with z|z
     ·rw[z];exact(old' q).2
     ·exact(old' z).2
  refine⟨.ref s.heap.objs.size,_,I2,rfl,⟨_,x,y,mG,rfl,rfl,λzs hy=>by rw[I.tuple_inj hy hq1];exact hx,λzs hy'=>by rw[I.tuple_inj hy' hq2];exact hy⟩,Z2,λb hb=>?_⟩;rw[aq (bH (lts b hb))];exact(hf b hb).1
 done:=by
  intro X hP hw hK hc i pins s U H E I hf Z hg;subst hP hw hK;obtain⟨xs,ys,hq1,hq2,hx⟩:=hg;obtain⟨its,rv,p,hz⟩:=I.tuple hq1;obtain⟨jts,rw',p',hz'⟩:=I.tuple hq2;have hl:=rv.length;have hl':=rw'.length;refine AW (I.ok.hd hc) D Z p p' (by rcases hx with h|h;exact .inl (by simp;lia);exact .inr (by simp;lia)) λh' eb=>⟨rfl,?_⟩;have ch:∀b,b∉[z,TI,TO,i1,i2]->b≠z/\b≠TI/\b≠TO/\b≠i1/\b≠i2:=λb hb=>by simpa using hb
  have k2:∀b o,b∉[z,TI,TO,i1,i2]->s.heap.get? b=some o->h'.get? b=some o:=λb o hb q=>by
   obtain⟨c1,c2,c3,c4,c5⟩:=ch b hb;exact eb b o c1 c3 c4 c5 q
  have old':∀{b:Addr}{o:HO},H b=some o->b∉[z,TI,TO,i1,i2]:=λ{b o} q hb=>by
   have:=(hf b hb).1;rw[this]at q;cases q
  refine I.step (g':=s.gens) (d':=s.drawn) (t':=s.toks) (ch:=[z,TI,TO,i1,i2]) (λb hb=>?_) (λb o _ _ hc q _=>k2 b o hc q) (λb o _ _ hc q _=>⟨o.slots,k2 b o hc q⟩) (λb o _ q n=>n) (λb o hc q=>⟨o,k2 b o hc q⟩)
   (λb ys q=>q) (λb o v q=>q) (λb y q=>q) (λm hm=>?_) (λb v' q=>?_) I.bare
  ·obtain⟨f0,f1,f2,f3,f4,f5⟩:=hf b hb;exact⟨f3,f1,f4,f5⟩
  ·obtain⟨o,es,ep,ho,r⟩:=hm;exact⟨o,es,ep,k2 _ o (λhb=>(hf _ hb).2.1 rfl) ho,r⟩
  ·refine(I.hok b v' q).stay (λb' v'' hb' r=>k2 b' v'' ?_ r) (λb' z=>z) (λb' ys z=>z) λb' o' u' z=>z;rcases hb' with z|z
   ·rw[z];exact old' q
   ·exact old' z
 self:=λ_ _ _ _ _ Z h=>wpAny_pyIter_zip Z.hz h
def vp:List D->List D->List D
 |x::r,y::q=>.tup [x,y]::vp r q
 |_,_=>[]
theorem M3:∀(ds es:List D)(i:Nat){d:D},(vp ds es)[i]?=some d->∃x y,ds[i]?=some x/\es[i]?=some y/\d=.tup [x,y]
 |[],es,i,d,h=>by simp[vp]at h
 |x::r,[],i,d,h=>by simp[vp]at h
 |x::r,y::q,0,d,h=>by simp[vp]at h;exact⟨x,y,rfl,rfl,h.symm⟩
 |x::r,y::q,i+1,d,h=>by
  simp only[vp,dU]at h⊢;exact M3 r q i h
theorem M4:∀(ds es:List D),(vp ds es).length=min ds.length es.length
 |[],es=>by simp[vp]
 |x::r,[]=>by simp[vp]
 |x::r,y::q=>by simp only[vp,aL,M4 r q];lia
def N3(r:En->ResL):En->ResL:=λW=>match r W with
 |.ok [.tup ds,.tup es]=>.ok (vp ds es)
 |.er c=>.er c
 |_=>.st
section
variable{X:Cx}{B:Hp}{E:EK}{e e':Expr}{g h:En->Res}{pos p tp:Pos}{tes:List Expr}{k1:Nat}
def YV(q:ResLP E G H (N3 r W) P):ResLP E G H (r W) λl=>∃ds es,l=[.tup ds,.tup es]/\P (vp ds es):=by
 unfold N3 at q;cases e:r W with
 |ok l=>
  rw[e]at q;split at q
  ·rename_i h0;cases h0;exact⟨_,_,rfl,q⟩
  ·rename_i h0;cases h0
  ·exact q.elim
 |er c=>rw[e]at q;exact q
 |st=>rw[e]at q;exact q
def JD{K:KA}{a b:Addr}{G1:Hp}{ds es:List D}{vs us:List V}{S:Hp->Hp->Prop}(h:∀G H,S G H->Same G H->SqT K H a vs/\SqT K H b us/\Same G1 G)(dl:DenL K G1 ds vs)(el:DenL K G1 es us):zi K (WT K a b) (vp ds es) S:=λi G H hS sg=>by
 obtain⟨q,q',g⟩:=h G H hS sg;refine⟨λd ed=>?_,λhl=>⟨vs,us,q,q',by rw[M4]at hl;rw[<-dl.length,<-el.length];lia⟩⟩;obtain⟨x0,y0,e1,e2,rfl⟩:=M3 ds es i ed;obtain⟨v,ev,dv⟩:=dl.get e1;obtain⟨u,eu,du⟩:=el.get e2;refine⟨⟨vs,us,v,u,q,q',ev,eu⟩,λx H' ⟨p,y,y',hp,h1,h2,h3,h4⟩=>?_⟩;subst h1 h2;have z:=h3 vs q;rw[ev]at z;cases z;have z:=h4 us q';rw[eu]at z;cases z;exact⟨_,Ext.new sg (.tup [v,u]) hp,nj sg hp (DenL.append (DenL.one (dv.mono g)) (DenL.one (du.mono g)))⟩
def LL(hg:Gl X "zip")(hm:X.mg "zip"=none)(h1:jq X B E e g)(h2:jq X B E e' h)(n1:i3 e=true)(n2:i3 e'=true):
  HZ X B E (.Tuple tes k1 tp) (.Call (.Name "zip" p) [e,e'] [] pos) (N3 (aa g (aa h ah))):=by
 intro pins s U H R I ⟨G,W,Rr,q⟩;have ha:Px X B E [true,true] [e,e'] (aa g (aa h ah)):=fc h1 (fc h2 ip (a5 n2)) (a5 n1);refine Call_ (xg I hg hm (by decide+kernel:gE "zip"=some (.type "zip")) (gF (jh (ha pos pins s U H (λvs H1=>∃a b,vs=[.ref a,.ref b]/\(∃xs,SqT X.K H1 a xs)/\(∃ys,SqT X.K H1 b ys)/\R (WT X.K a b) H1) I ⟨G,W,Rr,(YV q).mono λl _ ⟨ds,es,ed,q⟩ v G1 H1 e1 ax=>?_⟩) λus s1 ⟨vs,H1,I1,r1,a,b,e1,⟨xs,hq⟩,⟨ys,hq'⟩,q1⟩=>?_) (a5 n1) ?_))
 ·subst ed;obtain⟨v1,v2,rfl,a1,a2⟩:=ArgsM.two ax;rcases a1 with ⟨a,vs,rfl,s,dl⟩|⟨ds2,a,vs,z,_⟩|⟨t,kvs,a,z,_⟩
  ·rcases a2 with ⟨b,us,rfl,s',el⟩|⟨ds2,a,vs,z,_⟩|⟨t,kvs,a,z,_⟩
   ·have t1:∀{G2 H2:Hp},Same G1 G2->Same G2 H2->SqT (kx X) H2 a vs:=λx1 sg=>.inl (.inl (sg _ _ (x1 _ _ s)));have t2:∀{G2 H2:Hp},Same G1 G2->Same G2 H2->SqT (kx X) H2 b us:=λx1 sg=>.inl (.inl (sg _ _ (x1 _ _ s')));exact⟨a,b,rfl,⟨vs,t1 (Same.refl G1) e1.gh⟩,⟨us,t2 (Same.refl G1) e1.gh⟩,q _ G1 H1 e1 (JD (λG2 H2 ⟨x1,x2⟩ sg=>⟨t1 x1 sg,t2 x1 sg,x1⟩) dl el)⟩
   ·cases z
   ·cases z
  ·cases z
  ·cases z
 ·subst e1;obtain⟨u,r,rfl,ru,rr⟩:∃u r,us=u::r/\RelV (.ref a) u/\Vals [.ref b] r:=by
   cases r1 with
   |cons h t=>exact⟨_,_,rfl,h,t⟩
  obtain⟨u2,rfl,ru2⟩:=mj rr;cases ru;cases ru2;obtain⟨its,rv,pl,_⟩:=I1.tuple hq;obtain⟨jts,rv',pl',_⟩:=I1.tuple hq';have la:@LT.lt Nat _ a s1.heap.objs.size:=pl.lt;have lb:@LT.lt Nat _ b s1.heap.objs.size:=pl'.lt;refine Sk pl pl' λh' Z hz' hk'=>?_;have D:ZipApart (s1.heap.objs.size+4) (s1.heap.objs.size+2) (s1.heap.objs.size+3) s1.heap.objs.size (s1.heap.objs.size+1) a b:=by
   constructor<;>first|exact bH (by lia)|exact eK (by lia)
  refine wpAny_pyIter_zip Z.hz ⟨s1.heap.objs.size+4,_,_,_,H1,rfl,I1.kept (t':=s1.toks) hk',Zv D,Z,λb hb=>?_,q1⟩;have hb':s1.heap.objs.size<=b:=by
   have:b=s1.heap.objs.size+4\/b=s1.heap.objs.size+2\/b=s1.heap.objs.size+3\/b=s1.heap.objs.size\/b=s1.heap.objs.size+1:=by simpa using hb
   rcases this with z|z|z|z|z<;>subst z<;>first|exact iR _ _|exact aR _
  exact I1.fpOk hb' (I1.hok.fresh hb')
 ·exact ux (by rw[cP,n2];rfl)
end
open AutoSeq1 (wpAny_loadPart')
def Lp(l:Addr)(items:Array aH)(n:Nat)(dct:Option Addr)(sl:Array (Option aH)):
  Meets (Builtin.«enumerate.__new__» ⟨[.type "enumerate",.ref l],[]⟩) (λ_ R s=>s.heap.get? l=some {cls:=.type "tuple",dict:=dct,data:=.seq items n,slots:=sl}/\
   R (.ok (.ret (.ref (s.heap.push {cls:=.type "tuple_iterator",data:=.fields #[.ref l,.int 0 0]}).objs.size)))
    {s with heap:=(s.heap.push {cls:=.type "tuple_iterator",data:=.fields #[.ref l,.int 0 0]}).push {cls:=.type "enumerate",data:=.fields #[.none,.bool false,.ref s.heap.objs.size,cE 0,.none,.none]}}):=
 .of_wp λprog w A R s h=>by
  obtain⟨hp,g,d,tk,os⟩:=s;obtain⟨hl,h⟩:=h;have hsub:=sub_enumerate;have hL:jN (Shared.heap ⟨hp,g,d,tk,os⟩) l items:=⟨_,hl,rfl,n,rfl⟩
  wp_walk using jH hl
  refine wpAny_stack_any λst=>aB ?_;split
  ·rename_i c _ _ _ _ _;cases (c==iW "enumerate")
   ·wp_walk using jH hl,oU hL
    exact⟨_,rfl,h⟩
   ·wp_walk using jH hl,oU hL
    exact⟨_,rfl,h⟩
  ·wp_walk using jH hl,oU hL
   exact⟨_,rfl,h⟩
section
variable{prog:bQ}{w:cF}{A:cS}{E:aH->aN->Prop}{s:aN}
def Ni(hL:jN s.heap l items)
   (h:∀h',nF h' (s.heap.objs.size+1) s.heap.objs.size 0 .none->fV h' s.heap.objs.size l 0->h'.objs.size=s.heap.objs.size+2->
   (∀b o,s.heap.get? b=some o->h'.get? b=some o)->Q (.ref (s.heap.objs.size+1)) {s with heap:=h'}):
  aQ (bI prog w) A (call (.type "enumerate") [.ref l]) Q E s:=by
 obtain⟨⟨c,dct,dt,sl⟩,hl,hc,n,hd⟩:=hL;replace hc:c=.type "tuple":=hc;replace hd:dt=.seq items n:=hd;subst hc hd;refine callType_new F.called_enumerate (by decide) (F.typeCall_enumerate_1 _) (F.newCall_enumerate_1 _) (λobj=>F.args_object_init_2 obj _) F.entry_enumerate_new
  (Lp l items n dct sl) ⟨hl,?_⟩
 have hz:(s.heap.push {cls:=.type "tuple_iterator",data:=.fields #[.ref l,.int 0 0]}).objs.size=s.heap.objs.size+1:=dB ..;show _/\_;rw[hz];have he:nF ((s.heap.push {cls:=.type "tuple_iterator",data:=.fields #[.ref l,.int 0 0]}).push
   {cls:=.type "enumerate",data:=.fields #[.none,.bool false,.ref s.heap.objs.size,cE 0,.none,.none]}) (s.heap.objs.size+1) s.heap.objs.size 0 .none:=by
  have:=aT (s.heap.push {cls:=.type "tuple_iterator",data:=.fields #[.ref l,.int 0 0]})
   (o:={cls:=.type "enumerate",data:=.fields #[.none,.bool false,.ref s.heap.objs.size,cE 0,.none,.none]}) rfl
  rw[hz]at this;exact this
 refine⟨⟨_,he,rfl⟩,h _ he ⟨_,aC _ (aT _ rfl),rfl,rfl⟩ (by rw[dB,hz]) λb o x=>aC _ (aC _ x)⟩
def Ny{e it l:Addr}{i:Nat}{items:Array aH}{x old:aH}{Q:aH->aN->Prop}
  (he:nF s.heap e it i old)(hit:fV s.heap it l i)(hl:jN s.heap l items)(hx:items[i]?=some x)(hne:e≠it)
  (hQ:∀h',IsEnumOut h' e it ((i:Int)+1) x s.heap.objs.size->fV h' it l (i+1)->
   h'.get? s.heap.objs.size=some {cls:=.type "tuple",data:=.seq #[.int i s.toks,x]}->h'.objs.size=s.heap.objs.size+1->
   (∀b o,b≠e->b≠it->s.heap.get? b=some o->h'.get? b=some o)->Q (.ref s.heap.objs.size) {s with heap:=h',toks:=s.toks+1}):
  aQ (bI prog w) A (Builtin.«enumerate.__next__» ⟨[.ref e],[]⟩) (λfin s'=>∃v,fin=.done (.ret v)/\Q v s') E s:=by
 obtain⟨hp,g,d,tk,os⟩:=s;show aQ _ _ (field (.ref e) 2>>=_) _ _ _;refine aA (cQ he rfl (x:=.ref it) rfl ?_);refine aA (jv hit hl hx λh₁ hit₁ hs₁=>?_);replace hs₁:cJ it hp h₁:=hs₁;have he₁:nF h₁ e it i old:=(hs₁.2 e hne).trans he;show aQ _ _ (field (.ref e) 3>>=_) _ _ ⟨h₁,g,d,tk,os⟩;refine aA (cQ he₁ rfl (x:=cE i) rfl ?_);show aQ _ _ (field (.ref e) 4>>=_) _ _ ⟨h₁,g,d,tk,os⟩;refine aA (cQ he₁ rfl (x:=.none) rfl ?_);show aQ _ _ (mkInt i>>=_) _ _ ⟨h₁,g,d,tk,os⟩;refine aA (wpAny_mkInt ?_);show aQ _ _ (setField (.ref e) 3 (cE ((i:Int)+1))>>=_) _ _ ⟨h₁,g,d,tk+1,os⟩;refine aA (dP he₁ (by simp) λh₂ he₂ hs₂=>?_);replace hs₂:cJ e h₁ h₂:=hs₂;replace he₂:nF h₂ e it ((i:Int)+1) old:=he₂;show aQ _ _ (setField (.ref e) 4 .none>>=_) _ _ ⟨h₂,g,d,tk+1,os⟩;refine aA (dP he₂ (by simp) λh₃ he₃ hs₃=>?_);replace hs₃:cJ e h₂ h₃:=hs₃;replace he₃:nF h₃ e it ((i:Int)+1) old:=he₃;show aQ _ _ (newTuple [.int i tk,x]>>=_) _ _ ⟨h₃,g,d,tk+1,os⟩;refine aA (nC ?_);have he₄:nF (h₃.push {cls:=.type "tuple",data:=.seq #[.int i tk,x]}) e it ((i:Int)+1) old:=aC _ he₃;generalize hh₄:h₃.push {cls:=.type "tuple",data:=.seq #[.int i tk,x]}=h₄ at he₄;have hsz:h₃.objs.size=hp.objs.size:=by rw[hs₃.1,hs₂.1,hs₁.1]
 have hel:e<hp.objs.size:=aP he;have ht₄:h₄.get? hp.objs.size=some {cls:=.type "tuple",data:=.seq #[.int i tk,x]}:=by rw[<-hh₄,<-hsz];exact aT _ rfl
 have hz₄:h₄.objs.size=hp.objs.size+1:=by rw[<-hh₄,dB,hsz]
 have hk₄:∀b o,b≠e->b≠it->hp.get? b=some o->h₄.get? b=some o:=λb o hbe hbi hb=>by
  rw[<-hh₄];exact aC _ (hs₃.extBut b o hbe (hs₂.extBut b o hbe (hs₁.extBut b o hbi hb)))
 have hit₄:fV h₄ it l (i+1):=by
  rw[<-hh₄];obtain⟨o,ho,r⟩:=(hit₁.extBut hs₂.extBut (dX hne)).extBut hs₃.extBut (dX hne);exact⟨o,aC _ ho,r⟩
 show aQ _ _ (cZ (.ref e)>>=_) _ _ ⟨h₄,g,d,tk+1,os⟩;rw[hsz];clear hh₄ he₃ hs₃ he₂ hs₂ he₁ hs₁ hit₁ hsz h₃ h₂ h₁;refine aA ?_
 ·unfold cZ;refine aA (cQ he₄ rfl (x:=.none) rfl (aB ?_));simp only[if_true];refine aA (iG ?_);refine aA (cQ he₄ rfl (x:=old) rfl ?_);refine aA (dP he₄ (by simp) λh₅ he₅ hs₅=>?_);replace hs₅:cJ e h₄ h₅:=hs₅;replace he₅:nF h₅ e it ((i:Int)+1) x:=he₅;show aQ _ _ (eS (.ref e) (.ref hp.objs.size)>>=_) _ _ ⟨h₅,g,d,tk+1,os⟩;refine aA ?_
  ·unfold eS;refine aA (dP he₅ (by simp) λh₆ he₆ hs₆=>?_);replace hs₆:cJ e h₅ h₆:=hs₆;replace he₆:IsEnumOut h₆ e it ((i:Int)+1) x hp.objs.size:=he₆;refine dP he₆ (by simp) λh₇ he₇ hs₇=>?_;replace hs₇:cJ e h₆ h₇:=hs₇;replace he₇:IsEnumOut h₇ e it ((i:Int)+1) x hp.objs.size:=he₇;refine aA (kG (aB ⟨_,rfl,hQ h₇ he₇ ?_ ?_ ?_ ?_⟩))
   ·exact((hit₄.extBut hs₅.extBut (dX hne)).extBut hs₆.extBut (dX hne)).extBut hs₇.extBut (dX hne)
   ·exact hs₇.extBut _ _ (eK hel) (hs₆.extBut _ _ (eK hel) (hs₅.extBut _ _ (eK hel) ht₄))
   ·rw[hs₇.1,hs₆.1,hs₅.1,hz₄]
   ·exact λb o hbe hbi hb=>hs₇.extBut b o hbe (hs₆.extBut b o hbe (hs₅.extBut b o hbe (hk₄ b o hbe hbi hb)))
def Nx{e it l:Addr}{i:Nat}{items:Array aH}{x old:aH}{Q:Option aH->aN->Prop}
  (he:nF s.heap e it i old)(hit:fV s.heap it l i)(hl:jN s.heap l items)(hx:items[i]?=some x)(hne:e≠it)
  (hQ:∀h',IsEnumOut h' e it ((i:Int)+1) x s.heap.objs.size->fV h' it l (i+1)->
   h'.get? s.heap.objs.size=some {cls:=.type "tuple",data:=.seq #[.int i s.toks,x]}->h'.objs.size=s.heap.objs.size+1->
   (∀b o,b≠e->b≠it->s.heap.get? b=some o->h'.get? b=some o)->Q (some (.ref s.heap.objs.size)) {s with heap:=h',toks:=s.toks+1}):
  aQ (bI prog w) A (fH (.ref e)) Q E s:=by
 have hT:s.TypeIs (.ref e) "enumerate":=⟨_,he,rfl⟩;unfold fH;exact aA (fS (cA (name:=dJ "__next__") hT jM
  (bW jM hT F.entry_enumerate_next
   (Ny he hit hl hx hne λh' a b c d k=>aB (hQ h' a b c d k)) (F.args_enumerate_next_1 _))))
def S0{e it l:Addr}{i:Nat}{items:Array aH}{old:aH}{Q:Option aH->aN->Prop}(hh:A.handled=none)
  (he:nF s.heap e it i old)(hit:fV s.heap it l i)(hl:jN s.heap l items)(hx:items[i]?=none)
  (hQ:∀h',nT it s.heap h'->Q none {s with heap:=h'}):aQ (bI prog w) A (fH (.ref e)) Q E s:=by
 have hT:s.TypeIs (.ref e) "enumerate":=⟨_,he,rfl⟩;unfold fH;refine aA (fS (cA (name:=dJ "__next__") hT jM
  (bW jM hT F.entry_enumerate_next ?_ (F.args_enumerate_next_1 _))))
 show aQ _ _ (field (.ref e) 2>>=_) _ _ _;refine aA (cQ he rfl (x:=.ref it) rfl ?_);refine aA (n6 hh hit hl hx λh' x he' hx'=>?_);obtain⟨o,ho,hc⟩:=hx';refine aA (fB (T:="StopIteration") (b:=true) ⟨o,ho,hc⟩ lP ?_);exact aB (hQ _ he')
end
def IF(K:bA)(a:Addr):It:=
 ⟨λi H=>∃xs x,SqT K H a xs/\xs[i]?=some x,λi H v H'=>∃p x,H p=none/\v=.ref p/\H'=upd H p (.tup [.int (i:Int),x])/\∀xs,SqT K H a xs->xs[i]?=some x,λi H=>∃xs,SqT K H a xs/\xs.length<=i⟩
def ZG(e it a:Addr)(i:Nat)(h:Heap):Prop:=(∃old,nF h e it (i:Int) old)/\fV h it a i
def Pp{P:bQ}{w:cF}{K:bA}{tes:List Expr}{k1}{tp:Pos}(a e it:Addr)(hne:e≠it):Turn P w K (.Tuple tes k1 tp) (IF K a) [e,it] e (ZG e it a) where
 mem:=by simp
 obj:=λi h st b hb=>by
  obtain⟨⟨old,he⟩,o,ho,hc,hd⟩:=st;rcases List.mem_cons.mp hb with rfl|hb
  ·exact⟨_,he,λv z=>by
    have z':pF _=oC v:=z;cases z'⟩
  ·have e:b=it:=by simpa using hb
   subst e;exact⟨o,ho,λv z=>by rw[hd]at z;cases z⟩
 keep:=λi h h' st k=>⟨let ⟨old,he⟩:=st.1;⟨old,k e (by simp) _ he⟩,let ⟨o,q,r⟩:=st.2;⟨o,k it (by simp) o q,r⟩⟩
 item:=by
  intro X hP hw hK hc i pins s U H E I hf st hg;subst hP hw hK;obtain⟨xs,x,hq,hx⟩:=hg;obtain⟨its,rv,p,hz⟩:=I.tuple hq;obtain⟨u,hu,ru⟩:=rv.get hx;obtain⟨⟨old,he⟩,hit⟩:=st;obtain⟨f0,f1,f2,f3,f4,f5⟩:=hf e (by simp);obtain⟨g0,g1,g2,g3,g4,g5⟩:=hf it (by simp);have mG:H s.heap.objs.size=none:=I.hok.fresh (aR _);have elt:e<s.heap.objs.size:=aP he;refine Nx he hit p (x:=u) (by simpa using hu) hne λh1 he1 hit1 ht1 hz1 hk1=>?_;refine⟨_,rfl,wpAny_letOwnedTupleGo_enum he1 λh2 he2 sb=>?_⟩;have sb':cJ e h1 h2:=sb;have k2:∀b o,b≠e->b≠it->s.heap.get? b=some o->h2.get? b=some o:=λb o h1' h2' q=>sb'.extBut b o h1' (hk1 b o h1' h2' q);have t2:h2.get? s.heap.objs.size=some {cls:=.type "tuple",data:=.seq #[.int (i:Int) s.toks,u]}:=sb'.extBut _ _ (eK elt) ht1;have old':∀{b:Addr}{o:HO},H b=some o->b≠s.heap.objs.size/\b≠e/\b≠it:=λ{b o} q=>⟨bj q mG,bj q f0,bj q g0⟩;have ch:∀b,b∉[e,it]->b≠e/\b≠it:=λb hb=>by simpa using hb
  have I2:Inv X pins U (upd H s.heap.objs.size (.tup [.int (i:Int),x])) {s with heap:=h2,toks:=s.toks+1}:=by
   refine I.step (g':=s.gens) (d':=s.drawn) (ch:=[e,it]) (λb hb=>?_) (λb o _ _ hc q _=>k2 b o (ch b hc).1 (ch b hc).2 q) (λb o _ _ hc q _=>⟨o.slots,k2 b o (ch b hc).1 (ch b hc).2 q⟩) (λb o _ q n=>?_) (λb o hc q=>⟨o,k2 b o (ch b hc).1 (ch b hc).2 q⟩)
    (λb ys q=>by rw[aq (old' q).1];exact q) (λb o v q=>by rw[aq (old' q).1];exact q) (λb y q=>by rw[aq (old' q).1];exact q) (λm hm=>?_) (λb v q=>?_) I.bare
   ·rcases List.mem_cons.mp hb with rfl|hb
    ·exact⟨f3,f1,f4,f5⟩
    ·have z:b=it:=by simpa using hb
     subst z;exact⟨g3,g1,g4,g5⟩
   ·rw[aq (bH (aP q))];exact n
   ·obtain⟨o,es,ep,ho,r⟩:=hm;exact⟨o,es,ep,k2 _ o (dX f1) (dX g1) ho,r⟩
   ·by_cases hb:b=s.heap.objs.size
    ·subst hb;rw[bp]at q;cases q;exact⟨by rw[eU];simp,[.int (i:Int) s.toks,u],.cons ⟨_,rfl⟩ (.cons ru .nil),_,t2,rfl,0,rfl⟩
    ·rw[aq hb]at q;refine(I.hok b v q).stay (λb' v' hb' r=>k2 b' v' ?_ ?_ r) (λb' z=>by rw[aq (old' z).1];exact z) (λb' ys z=>by rw[aq (old' z).1];exact z) λb' o' u' z=>by rw[aq (old' z).1];exact z
     ·rcases hb' with z|z
      ·rw[z];exact(old' q).2.1
      ·exact(old' z).2.1
     ·rcases hb' with z|z
      ·rw[z];exact(old' q).2.2
      ·exact(old' z).2.2
  refine⟨.ref s.heap.objs.size,_,I2,rfl,⟨_,x,mG,rfl,rfl,λys hy=>by rw[I.tuple_inj hy hq];exact hx⟩,⟨⟨u,?_⟩,?_⟩,λb hb=>?_⟩
  ·have:((i+1:Nat):Int)=(i:Int)+1:=by push_cast;rfl
   rw[this];exact he2
  ·exact let ⟨o,q,r⟩:=hit1;⟨o,sb'.extBut it o (dX hne) q,r⟩
  ·have z:=(hf b hb).1;have:b<s.heap.objs.size:=by
    rcases List.mem_cons.mp hb with rfl|hb
    ·exact elt
    ·have z:b=it:=by simpa using hb
     subst z;obtain⟨o,ho,_⟩:=hit;exact aP ho
   rw[aq (bH this)];exact z
 done:=by
  intro X hP hw hK hc i pins s U H E I hf st hg;subst hP hw hK;obtain⟨xs,hq,hx⟩:=hg;obtain⟨its,rv,p,hz⟩:=I.tuple hq;obtain⟨⟨old,he⟩,hit⟩:=st;obtain⟨g0,g1,g2,g3,g4,g5⟩:=hf it (by simp);have hl:=rv.length;exact S0 (I.ok.hd hc) he hit p (by simp;lia) λh' eb=>⟨rfl,I.turned (t':=s.toks) (λb o hb e=>eb b o hb e) g0 g1 g3 g4 g5⟩
 self:=λ_ _ _ _ _ st h=>let ⟨_,he⟩:=st.1;lS he h
def JF{K:KA}{a:Addr}{G1:Hp}{ds:List D}{vs:List V}{S:Hp->Hp->Prop}(h:∀G H,S G H->Same G H->SqT K H a vs/\Same G1 G)(dl:DenL K G1 ds vs):zi K (IF K a) (mf 0 ds) S:=λi G H hS sg=>by
 obtain⟨q,g⟩:=h G H hS sg;refine⟨λd ed=>?_,λhl=>⟨vs,q,by rw[va]at hl;rw[<-dl.length];exact hl⟩⟩;rw[zz,lQ]at ed;cases e0:ds[i]? with
 |none=>rw[e0]at ed;cases ed
 |some d0=>
  rw[e0]at ed;cases ed;obtain⟨v,ev,dv⟩:=dl.get e0;refine⟨⟨vs,v,q,ev⟩,λx H' ⟨p,y,hp,e1,e2,e3⟩=>?_⟩;subst e1 e2;have z:=e3 vs q;rw[ev]at z;cases z;exact⟨_,Ext.new sg (.tup [.int (i:Int),v]) hp,nj sg hp (DenL.append (DenL.one (d:=.int (i:Int)) rfl) (DenL.one (dv.mono g)))⟩
def NV:D->Option (List D)
 |.lst ds=>some ds
 |.tup ds=>some ds
 |_=>none
def tf(g:En->Res):En->ResL:=λW=>match g W with
 | .ok d => (match NV d with
  |some ds=>.ok (mf 0 ds)
  |none=>.st)
 |.er c=>.er c
 |.st=>.st
section
variable{X:Cx}{B:Hp}{E:EK}{e:Expr}{g:En->Res}{pos p tp:Pos}{tes:List Expr}{k1:Nat}
def QT(q:ResLP E G H (tf g W) P):ResP E G H (g W) λd=>∃ds,(d=.lst ds\/d=.tup ds)/\P (mf 0 ds):=by
 unfold tf at q;cases e:g W with
 |ok d=>
  rw[e]at q;dsimp only at q;cases d with
  |lst ds=>exact⟨ds,.inl rfl,q⟩
  |tup ds=>exact⟨ds,.inr rfl,q⟩
  |_=>exact q.elim
 |er c=>rw[e]at q;exact q
 |st=>rw[e]at q;exact q
def DD(hg:Gl X "enumerate")(hm:X.mg "enumerate"=none)(h:IJ X B E e g)(he:bF [e] X.env=(false,eval e X.env)::bF [] X.env):
  HZ X B E (.Tuple tes k1 tp) (.Call (.Name "enumerate" p) [e] [] pos) (tf g):=by
 intro pins s U H R I ⟨G,W,Rr,q⟩;have ha:PA X [e] (IP (YI (kx X) B E g) NL):=vj h Ji he;refine Call_ (xg I hg hm (by decide+kernel:gE "enumerate"=some (.type "enumerate")) (gF (jh (ha pos pins s U H (λvs H1=>∃a,vs=[.ref a]/\((∃xs,SqL X.K H1 a xs)/\R (WW X.K a) H1\/(∃xs,SqT X.K H1 a xs)/\R (IF X.K a) H1)) I ⟨G,W,Rr,(QT q).mono λd _ ⟨ds,ed,q⟩ v G1 H1 e1 ax=>?_⟩) λus s1 ⟨vs,H1,I1,r1,a,e1,hq⟩=>?_) he rfl))
 ·have bh:Same B H1:=Rr.bh.trans e1.hh;rcases ed with rfl|rfl
  ·rcases ax with ⟨a,vs,rfl,s,dl⟩|⟨ds2,a,vs,z,rfl,s,dl⟩|⟨t,kvs,a,z,_⟩
   ·exact⟨a,rfl,.inl ⟨⟨vs,SqL.mono e1.gh s⟩,q _ G1 H1 e1 (Wr (λG2 H2 ⟨x1,x2⟩ sg=>⟨SqL.mono (x1.trans sg) s,x1⟩) dl)⟩⟩
   ·cases z;exact⟨a,rfl,.inl ⟨⟨vs,SqL.mono bh s⟩,q _ G1 H1 e1 (Wr (λG2 H2 ⟨x1,x2⟩ sg=>⟨SqL.mono x2 s,x1⟩) dl)⟩⟩
   ·cases z
  ·rcases ax with ⟨a,vs,rfl,s,dl⟩|⟨ds2,a,vs,z,_⟩|⟨t,kvs,a,z,_⟩
   ·have t1:∀{G2 H2:Hp},Same G1 G2->Same G2 H2->SqT (kx X) H2 a vs:=λx1 sg=>.inl (.inl (sg _ _ (x1 _ _ s)));exact⟨a,rfl,.inr ⟨⟨vs,t1 (Same.refl G1) e1.gh⟩,q _ G1 H1 e1 (JF (λG2 H2 ⟨x1,x2⟩ sg=>⟨t1 x1 sg,x1⟩) dl)⟩⟩
   ·cases z
   ·cases z
 ·subst e1;obtain⟨u,rfl,ru⟩:=mj r1;cases ru;have fps:∀b∈[s1.heap.objs.size+1,s1.heap.objs.size],Bu X pins H1 b:=λb hb=>by
   rcases List.mem_cons.mp hb with rfl|hb
   ·exact I1.fpOk (mH _) (I1.hok.fresh (mH _))
   ·have z:b=s1.heap.objs.size:=by simpa using hb
    subst z;exact I1.fpOk (aR _) (I1.hok.fresh (aR _))
  rcases hq with ⟨⟨xs,hq⟩,q1⟩|⟨⟨xs,hq⟩,q1⟩
  ·obtain⟨its,rv,pl,_⟩:=I1.list hq;refine call_enumerate_list pl.isList λh' he' hi' hz' hk'=>?_;exact lS he' ⟨s1.heap.objs.size+1,[s1.heap.objs.size+1,s1.heap.objs.size],_,_,H1,rfl,I1.kept (t':=s1.toks) hk',Up a _ _ (Nat.succ_ne_self _),⟨⟨_,he'⟩,hi'⟩,fps,q1⟩
  ·obtain⟨its,rv,pl,_⟩:=I1.tuple hq;refine Ni pl λh' he' hi' hz' hk'=>?_;exact lS he' ⟨s1.heap.objs.size+1,[s1.heap.objs.size+1,s1.heap.objs.size],_,_,H1,rfl,I1.kept (t':=s1.toks) hk',Pp a _ _ (Nat.succ_ne_self _),⟨⟨_,he'⟩,hi'⟩,fps,q1⟩
end
def Sb(a v:aH):argsOk "max" ⟨[a],[(dJ "default",v)]⟩:=by unfold argsOk;kernel_rfl
section
variable{prog:bQ}{w:cF}{A:cS}{R:Result->aN->Prop}{I:Addr}{fp wr:List Addr}{n:Nat}{P:Nat->aH->Prop}{St:Nat->Heap->Prop}{kw:List (Str×aH)}
def Tn(W:Walks prog w A.in1 I fp wr n P St)(bt:Nat->Nat->Bool)(hcmp:CmpOf prog w A.in1 .Gt P bt)(S:Addr)(hSf:S∉fp):
  ∀(k j:Nat)(s:aN)(vb:aH)(c:Nat),n - (j+1)=k->j+1<=n->St (j+1) s.heap->P (lT bt j) vb->
  s.heap.get? S=some {cls:=.type "list",dict:=none,data:=.seq #[vb,vb] c,slots:=#[]}->
  (∀v h' tk,P (lT bt (n - 1)) v->(∀b o,b∉wr->b≠S->s.heap.get? b=some o->h'.get? b=some o)->R (.ok (.ret v)) {s with heap:=h',toks:=tk})->
  hU (bI prog w) A (.builtin "max.loop" ⟨[.ref I,.none,.ref S],kw⟩) R s:=by
 have hSw:S∉wr:=λh=>hSf (W.sub _ h);have hname:(pJ "max"++pJ ".loop":String)="max.loop":=by decide
 intro k;induction k with
 |zero=>
  intro j s vb c hk hj hst hPb hS hR;have hin:j+1=n:=by lia
  refine eO oN ?_;rw[dM gQ _];show aQ _ A.in1 (mY (.ref S)>>=_) _ _ s;refine aA (cL hS rfl ?_);show aQ _ A.in1 (tryCatch (fH (.ref I)) _>>=_) _ _ s;refine aA (kC (W.done s _ _ (hin▸hst) λh' tk hk'=>?_));have hS':=hk' S _ hSw hS;show aQ _ A.in1 (updateSeq S (λ_=>#[])>>=_) _ _ _;refine aA ?_;refine gZ hS' rfl (aA (kG (aB ?_)));refine hR vb _ tk (by rw[<-hin];exact hPb) λb o hbw hbS e=>(cH _ _ (dX hbS)).trans (hk' b o hbw e)
 |succ k ih=>
  intro j s vb c hk hj hst hPb hS hR;have hlt:j+1<n:=by lia
  refine eO oN ?_;rw[dM gQ _];show aQ _ A.in1 (mY (.ref S)>>=_) _ _ s;refine aA (cL hS rfl ?_);show aQ _ A.in1 (tryCatch (fH (.ref I)) _>>=_) _ _ s;refine aA (kC (W.item (j+1) s _ _ hlt hst λv h' tk hP hst' hk'=>?_));have hS':=hk' S _ hSw hS;show aQ _ A.in1 (tryCatch (pO [v,v] (richCompare .Gt v vb>>=_)) _>>=_) _ _ _;refine aA (kC (dO (aA (hcmp (j+1) (lT bt j) v vb _ _ _ hP hPb ?_))));refine aA (dO (dW ?_));refine aA (kG (aB ?_));cases hb:bt (j+1) (lT bt j)with
  |true=>
   simp only[if_true];refine aA ?_;refine gZ hS' rfl (aA (kG ?_));rw[hname];refine aB ⟨eX gQ _,ih (j+1) _ v _ (by lia) hlt (W.frame _ _ _ hst' λb hbf o e=>?_) (by simp only[lT,hb,if_true];exact hP) (cG _ hS' rfl) λv' h'' tk'' hP' hk''=>?_⟩
   ·exact(cH _ _ (λh:S=b=>hSf (by rw[h];exact hbf))).trans e
   ·exact hR v' h'' tk'' hP' λb o hbw hbS e=>hk'' b o hbw hbS ((cH _ _ (dX hbS)).trans (hk' b o hbw e))
  |false=>
   simp only[Bool.false_eq_true,if_false];refine aA (kG ?_);rw[hname];refine aB ⟨eX gQ _,ih (j+1) _ vb c (by lia) hlt hst' (by simp only[lT,hb,Bool.false_eq_true,if_false];exact hPb) hS' λv' h'' tk'' hP' hk''=>?_⟩;exact hR v' h'' tk'' hP' λb o hbw hbS e=>hk'' b o hbw hbS (hk' b o hbw e)
def Og(W:Walks prog w A.in1 I fp wr n P St)(bt:Nat->Nat->Bool)(hcmp:CmpOf prog w A.in1 .Gt P bt)(S:Addr)(hSf:S∉fp){s:aN}(hst:St 0 s.heap)
  (hS:s.heap.get? S=some {cls:=.type "list",dict:=none,data:=.seq #[] c,slots:=#[]})
  (hR:∀v h' tk,(0<n->P (lT bt (n - 1)) v)->(n=0->v=dv)->(∀b o,b∉wr->b≠S->s.heap.get? b=some o->h'.get? b=some o)->R (.ok (.ret v)) {s with heap:=h',toks:=tk}):
  hU (bI prog w) A (.builtin "max.loop" ⟨[.ref I,.none,.ref S],[(dk,dv)]⟩) R s:=by
 have hSw:S∉wr:=λh=>hSf (W.sub _ h);have hname:(pJ "max"++pJ ".loop":String)="max.loop":=by decide
 refine eO oN ?_;rw[dM gQ _];show aQ _ A.in1 (mY (.ref S)>>=_) _ _ s;refine aA (cL hS rfl ?_);show aQ _ A.in1 (tryCatch (fH (.ref I)) _>>=_) _ _ s;rcases Nat.eq_zero_or_pos n with hn|hn
 ·subst hn;refine aA (kC (W.done s _ _ hst λh' tk hk'=>?_));refine aA (iG (aB ?_));exact hR dv h' tk (λz=>absurd z (cO 0)) (λ_=>rfl) λb o hbw _ e=>hk' b o hbw e
 ·refine aA (kC (W.item 0 s _ _ hn hst λv h' tk hP hst' hk'=>?_));have hS':=hk' S _ hSw hS;show aQ _ A.in1 (updateSeq S (λ_=>#[v,v])>>=_) _ _ _;refine aA ?_;refine gZ hS' rfl ?_;rw[hname];refine aB ⟨eX gQ _,Tn W bt hcmp S hSf _ 0 _ v _ rfl hn (W.frame _ _ _ hst' λb hbf o e=>?_) hP (cG _ hS' rfl) λv' h'' tk'' hP' hk''=>?_⟩
  ·exact(cH _ _ (λh:S=b=>hSf (by rw[h];exact hbf))).trans e
  ·exact hR v' h'' tk'' (λ_=>hP') (λz=>absurd hn (by lia)) λb o hbw hbS e=>hk'' b o hbw hbS ((cH _ _ (dX hbS)).trans (hk' b o hbw e))
end
section
variable{prog:bQ}{w:cF}{A:cS}{E:aH->aN->Prop}{s:aN}
def Sg
   (h:aQ (bI prog w) A.in1 (pyIter x) (λit s₂=>∃I fp wr n P St bt,it=.ref I/\Walks prog w A.in1 I fp wr n P St/\St 0 s₂.heap/\(∀b∈fp,b<s₂.heap.objs.size)/\CmpOf prog w A.in1 .Gt P bt/\
   ∀v h' tk,(0<n->P (lT bt (n - 1)) v)->(n=0->v=dv)->(∀b o,b∉wr->s₂.heap.get? b=some o->h'.get? b=some o)->Q v {s₂ with heap:=h',toks:=tk}) E s):
  aQ (bI prog w) A (call (.builtin "max") [x] [(dJ "default",dv)]) Q E s:=by
 have hname:(pJ "max"++pJ ".loop":String)="max.loop":=by decide
 refine kmk_tree PySem.F.kind_max PySem.F.plain_max PySem.F.entry_max (Sb _ _) ?_;show aQ _ A.in1 (mW "max" ["key","default"] 0 ⟨[],[(dJ "default",dv)]⟩>>=_) _ _ s;refine aA (lF (show mW "max" ["key","default"] 0 ⟨[],[(dJ "default",dv)]⟩=pure [none,some dv]from rfl) ?_);refine aA (aB ?_);refine aA (cK h (λit s₂ h₂=>?_) λ_ _ e=>e);obtain⟨I,fp,wr,n,P,St,bt,rfl,W,hst,hfp,hcmp,hQ⟩:=h₂;refine aA (cD ?_);have hSf:s₂.heap.objs.size∉fp:=λhm=>cO _ (hfp _ hm);rw[hname];refine aB ⟨eX gQ _,Og W bt hcmp s₂.heap.objs.size hSf (W.frame _ _ _ hst λb _ o e=>aC _ e) (aT _ rfl) λv h' tk hP hz hk=>?_⟩;exact hQ v h' tk hP hz λb o hbw e=>hk b o hbw (bH (aP e)) (aC _ e)
end
end Pu
end
section
namespace Pu
open PySem PySem.Spec PyProof.Rows L2 PySem.SeqAt PySem.W
def yg:List D->Option (List Int)
 |[]=>some []
 |.int i::r=>(yg r).map (i::·)
 |_=>none
def D6(c:Int):List Int->Int
 |[]=>c
 |i::r=>r.foldl max i
def xn(c:Int):D->Option D
 |.lst ds=>(yg ds).map λis=>.int (D6 c is)
 |_=>none
def To:∀{l:List Int},l≠[]->D6 c (l++[x])=max (D6 c l) x
 |[],h=>absurd rfl h
 |i::r,_=>by simp[D6,List.foldl_append]
theorem Kg{is:List Int}:∀k,k<is.length->is.getD (lT (λi j=>decide (is.getD i 0>is.getD j 0)) k) 0=D6 c (is.take (k+1))
 |0,h=>by
  cases is with
  |nil=>simp at h
  |cons i r=>simp[lT,D6]
 |k+1,h=>by
  have ih:=Kg (c:=c) (is:=is) k (by lia);have e:is.take (k+1+1)=is.take (k+1)++[is.getD (k+1) 0]:=by
   rw[List.take_add_one (i:=k+1),cB,bP h];rfl
  rw[e,To (by intro z;have:=congrArg iU z;rw[fC,eZ]at this;lia),<-ih];simp only[lT];generalize lT (λi j=>decide (is.getD i 0>is.getD j 0)) k=b
  by_cases hb:is.getD (k+1) 0>is.getD b 0
  ·simp only[hb,decide_true,if_true];lia
  ·simp only[hb,decide_false,Bool.false_eq_true,if_false];lia
theorem Gp:∀{ds:List D}{is:List Int},yg ds=some is->ds=is.map D.int
 |[],is,h=>by cases h;rfl
 |d::r,is,h=>by
  cases d with
  |int i=>
   unfold yg at h;cases e:yg r with
   |none=>rw[e]at h;cases h
   |some js=>rw[e]at h;cases h;rw[Gp e];rfl
  |_=>cases h
section
variable{X:Cx}{B:Hp}{E:EK}{e:Expr}{g:En->Res}{pos p cp kp:Pos}{c:Int}{kd:Nat}
def EE(hc:X.calm=true)(ha:jq X B E e g)(hg:Gl X "max")(hm:X.mg "max"=none)(hn:i3 e=true):gj X B E (.Call (.Name "max" p) [e] [⟨some "default",.Constant (.int c) kd cp,kp⟩] pos) (g1 (xn c) g):=by
 intro pins s U H Q I ⟨G,W,R,q⟩;unfold g1 at q;refine gR (xg I hg hm (by decide+kernel:gE "max"=some (.builtin "max")) ?_ (by decide) (by decide));have he:bF [e] X.env=(false,eval e X.env)::bF [] X.env:=a5 hn;have PA1:=fc ha ip he;refine callWith_kw (jh (PA1 pos pins s U H (λvs H1=>∃d v G1,vs=[v]/\Ext G H G1 H1/\Arg (kx X) G1 H1 d v/\g W=.ok d) I ⟨G,W,R,?_⟩) λus s1 ⟨vs,H1,I1,r1,d,v,G1,hv,e1,ad,eg⟩=>?_) (by rw[he];rfl) (by rw[he];rfl)
 ·unfold aa ah;cases eg:g W with
  |er c=>rw[eg]at q;exact q
  |st=>rw[eg]at q;exact q
  |ok d=>
   intro vs G' H' e1 al;obtain⟨v,rfl,ad⟩:=ArgsM.one al;exact⟨d,v,G',rfl,e1,ad,rfl⟩
 subst hv;obtain⟨u,rfl,ru⟩:=mj r1;rw[eg]at q;obtain⟨d',ed,q⟩:=ResP.of (show ResP E G H (Res.of (xn c d)) _ from q);refine kws_cons (jh (X4 (X:=X) (i:=c) (j:=kd) (pos:=cp) pins s1 U H1 (λv H2=>v=.int c/\H2=H1) I1 ⟨rfl,rfl⟩) λf s2 ⟨fv,H2,I2,r2,z1,z2⟩=>kws_nil ?_);subst z1 z2;obtain⟨ct,rfl⟩:=r2;unfold xn at ed;cases d with
 |lst ds=>
  dsimp only at ed;cases ei:yg ds with
  |none=>rw[ei]at ed;cases ed
  |some is=>
   rw[ei]at ed;cases ed;have eds:=Gp ei;obtain⟨a,vs,rfl,sq,dl⟩:=ad.lst e1.gh;cases ru;obtain⟨its,rv,pl,hz⟩:=I2.list sq;have al:=aP (show s2.heap.get? a=some _ from(pl.isList).choose_spec.1);have hne:a≠s2.heap.objs.size:=bH al;have len:its.length=is.length:=by rw[<-rv.length,<-dl.length,eds,aF]
   have val:∀i v,its.toArray[i]?=some v->∃t,v=gW (is.getD i 0) t:=λi v hv=>by
    have hv:its[i]?=some v:=by simpa using hv
    have hi:i<is.length:=by rw[<-len];exact(List.getElem?_eq_some_iff.mp hv).1
    have hd:ds[i]?=some (D.int (is.getD i 0)):=by rw[eds,bN,bP hi,cB,bP hi];rfl
    obtain⟨w,hw,dw⟩:=dl.get hd;obtain⟨u,hu,ru⟩:=rv.get hw;rw[hv]at hu;cases hu;rw[show w=V.int (is.getD i 0)from dw]at ru;exact ru
   refine Sg (jO pl.isList ⟨_,_,_,_,_,_,_,rfl,Walks.list (A:=X.A.in1) (I2.ok.hd hc) _ a hne its.toArray,⟨⟨_,aT _ rfl,rfl,rfl⟩,pl.isList.push _⟩,λb hb=>?_,CmpOf.ints_gt (λi=>is.getD i 0) val,λv h' tk hP hZ hk=>?_⟩)
   ·show b<(s2.heap.push _).objs.size;rw[dB];rcases List.mem_cons.mp hb with rfl|hb
    ·exact mD _
    ·rcases List.mem_cons.mp hb with rfl|hb
     ·exact iB al
     ·cases hb
   ·have key:∃t,v=gW (D6 c is) t:=by
     cases hl:is with
     |nil=>
      have:v=gW c ct:=hZ (by rw[bL,len,hl];rfl);exact⟨ct,this⟩
     |cons i r=>
      have h0:0<its.toArray.size:=by rw[bL,len,hl];exact Nat.succ_pos _
      obtain⟨t,rfl⟩:=val _ _ (hP h0);have bm:=Kg (c:=c) (is:=is) (its.toArray.size - 1) (by rw[bL,len]at h0⊢;lia);rw[bm,show its.toArray.size - 1+1=is.length by rw[bL,len]at h0⊢;lia,List.take_length,hl];exact⟨t,rfl⟩
    have kp':∀b o,s2.heap.get? b=some o->h'.get? b=some o:=λb o e=>by
     refine hk b o (λhm=>?_) (aC _ e);rcases List.mem_cons.mp hm with z|hm
     ·exact absurd (z▸aP e) (cO _)
     ·cases hm
    exact⟨.int (D6 c is),_,I2.kept (t':=tk) kp',key,q (.int (D6 c is)) G1 _ e1 rfl⟩
 |_=>cases ed
end
end Pu
end
section
namespace Pu
open PySem PySem.Spec PyProof.Rows L2
noncomputable def AK:Operator->Option (D->D->Option D)
 |.Add=>some a9
 |.Sub=>some Ej
 |.Mult=>some jm
 |.Mod=>some wd
 |.FloorDiv=>some Ow
 |_=>none
def MY(hf:AK op=some f)(ha:jq X B E a g)(hb:jq X B E b h):gj X B E (.BinOp a op b pos) (g2 f g h):=by
 cases op<;>cases hf
 ·exact LB ha hb
 ·exact MN ha hb
 ·exact MR ha hb
 ·exact MS ha hb
 ·exact EL ha hb
noncomputable def Y6:List Bool->List ((En->Res)×(En->Res))->En->ResL
 |[],[]=>ah
 |m::ms,p::ps=>aa (if m then p.1 else p.2) (Y6 ms ps)
 |_,_=>JI
theorem Rq:∀{ms:List Bool}{es:List Expr},Y6 ms (es.map λe=>(mh ev C e,ev C e))=JJ ev C ms es
 |[],[]=>rfl
 |[],_::_=>rfl
 |_::_,[]=>rfl
 |m::ms,e::es=>by
  show aa (if m then mh ev C e else ev C e) (Y6 ms (es.map λe=>(mh ev C e,ev C e)))=aa (if m then mh ev C e else ev C e) (JJ ev C ms es);rw[Rq]
noncomputable def Dk(T:GT)(i:Nat)(ps:List ((En->Res)×(En->Res))):En->Res:=λW=>match ae i W with
 | .ok (.fn y) => (match T.fns y with
  |some s=>ai s.f (Y6 s.ms ps) W
  |none=>.st)
 |_=>.st
def N1(T:GT)(ev:Ev)(C:SC)(i:Nat)(args:List Expr):En->Res:=Dk T i (args.map λe=>(mh ev C e,ev C e))
section
variable{T:GT}{ev tv:Ev}{X:Cx}{C:SC}{B:Hp}{E:XK}{pos p:Pos}{x:Str}{e a:Expr}{es:List Expr}
def Vh(h:ji T ev)(O:XOk X C T E)(hs:slot C x=some i)(hn:(e::es).all i3=true):gj X B (ek (kx X) E) (.Call (.Name x p) (e::es) [] pos) (N1 T ev C i (e::es)):=by
 intro pins s U H Q I ⟨G,W,R,q⟩;unfold N1 Dk at q;cases ea:ae i W with
 |er c=>rw[ea]at q;exact q.elim
 |st=>rw[ea]at q;exact q.elim
 |ok d=>
  rw[ea]at q;cases d with
  |fn y=>
   dsimp only at q;cases ef:T.fns y with
   |none=>rw[ef]at q;exact q.elim
   |some sp=>
    rw[ef]at q;dsimp only at q;rw[Rq]at q;obtain⟨k,f,fd,ps,hr,hm,hk,hb,F⟩:=O.fns y sp ef;obtain⟨v,q1,q2⟩:=R.arg ea;have ev':v=.ref f:=by rw[q2.fn];show V.ref (Fh X.mg y)=_;rw[m6 hm]
    subst ev';have hn':=hn;rw[cP,aO]at hn';refine gR (jh (O.var hs pins s U H (λv H1=>v=.ref f/\H1=H) I ⟨_,q1,rfl,rfl⟩) λu s1 ⟨v,H1,I1,r1,e1,e2⟩=>?_);subst e1 e2;cases r1;refine PySem.W.callWith_K (h₀:=X.base) I.ok.mod.kin hk (jh (F3 (B:=B) (E:=E) h O (ms:=sp.ms) hn pos pins s1 U H1 (λvs H2=>Pb (kx X) sp.ms sp.f vs H2 Q E) I1 ⟨G,W,R,(HS q).mono λds _ q vs G1 H2 e1 al=>
     ⟨al.length.2,R.gb.same (R.bh.trans e1.hh),G1,ds,e1.gh,al,(q.ext e1).mono λd _ q v G' H' e2 dn=>q v G' H' (e1.trans e2) dn⟩⟩) λus s2 ⟨vs,H2,I2,r,q2⟩=>⟨I2.kIn,?_⟩) (a5 hn'.1) (ux hn'.2)
    exact O0 (dvs:=[]) F hr hb .nil O.goes I2 r (by rw[eM];exact q2)
  |_=>exact q.elim
end
noncomputable def US(x:Str):Option (D->Option D):=
 if x="len" then some bu else if x="list" then some iy else if x="tuple" then some d4 else if x="int" then some Yu else if x="all" then some Bi else if x="sorted" then some oh else if x="dict" then some sa else none
section
variable{X:Cx}{B:Hp}{E:EK}{e a b:Expr}{es:List Expr}{g h:En->Res}{pos p:Pos}{x:Str}
def JX(O:XOk X C T E')(hf:US x=some f)(hg:Gl X x)(hn:i3 e=true)(ha:jq X B E e g):gj X B E (.Call (.Name x p) [e] [] pos) (g1 f g):=by
 unfold US at hf
 by_cases h1:x="len"
 ·rw[aJ h1]at hf;cases hf;subst h1;exact MU hg (O.bl _ (by decide)) ha (a5 hn) rfl
 rw[aK h1]at hf
 by_cases h1:x="list"
 ·rw[aJ h1]at hf;cases hf;subst h1;exact Xx (L6 O.calm hg (O.bl _ (by decide)) ha hn) Tc
 rw[aK h1]at hf
 by_cases h1:x="tuple"
 ·rw[aJ h1]at hf;cases hf;subst h1;exact Yq hg (O.bl _ (by decide)) ha (a5 hn) rfl
 rw[aK h1]at hf
 by_cases h1:x="int"
 ·rw[aJ h1]at hf;cases hf;subst h1;exact EH hg (O.bl _ (by decide)) ha (a5 hn) rfl
 rw[aK h1]at hf
 by_cases h1:x="all"
 ·rw[aJ h1]at hf;cases hf;subst h1;exact LA O.calm hg (O.bl _ (by decide)) ha (a5 hn)
 rw[aK h1]at hf
 by_cases h1:x="sorted"
 ·rw[aJ h1]at hf;cases hf;subst h1;exact T6 (by have:=O.units;lia) O.calm hg (O.bl _ (by decide)) ha (a5 hn)
 rw[aK h1]at hf
 by_cases h1:x="dict"
 ·rw[aJ h1]at hf;cases hf;subst h1;exact Yn O.calm hg (O.bl _ (by decide)) ha (a5 hn)
 rw[aK h1]at hf;cases hf
noncomputable def Qz(x:Str):Option String:=
 if x="int" then some "int" else if x="bool" then some "bool" else if x="str" then some "str" else if x="list" then some "list" else if x="tuple" then some "tuple" else none
def CW(O:XOk X C T E')(hf:Qz y=some c)(hg:Gl X "isinstance")(hg2:Gl X y)(hn:i3 e=true)(ha:jq X B E e g):gj X B E (.Call (.Name "isinstance" p) [e,.Name y p2] [] pos) (g1 (ba c) g):=by
 have he:bF [e,.Name y p2] X.env=(false,eval e X.env)::bF [.Name y p2] X.env:=a5 hn;unfold Qz at hf
 by_cases h1:y="int"
 ·rw[aJ h1]at hf;cases hf;subst h1;exact Ee CV hg (O.bl _ (by decide)) hg2 (O.bl _ (by decide)) PyProof.Rows.boot_int ha (by decide) (by decide) he rfl rfl
 rw[aK h1]at hf
 by_cases h1:y="bool"
 ·rw[aJ h1]at hf;cases hf;subst h1;exact Ee W1 hg (O.bl _ (by decide)) hg2 (O.bl _ (by decide)) PyProof.Rows.boot_bool ha (by decide) (by decide) he rfl rfl
 rw[aK h1]at hf
 by_cases h1:y="str"
 ·rw[aJ h1]at hf;cases hf;subst h1;exact Ee CU hg (O.bl _ (by decide)) hg2 (O.bl _ (by decide)) PyProof.Rows.boot_str ha (by decide) (by decide) he rfl rfl
 rw[aK h1]at hf
 by_cases h1:y="list"
 ·rw[aJ h1]at hf;cases hf;subst h1;exact Ee W2 hg (O.bl _ (by decide)) hg2 (O.bl _ (by decide)) PyProof.Rows.boot_list ha (by decide) (by decide) he rfl rfl
 rw[aK h1]at hf
 by_cases h1:y="tuple"
 ·rw[aJ h1]at hf;cases hf;subst h1;exact Ee Th hg (O.bl _ (by decide)) hg2 (O.bl _ (by decide)) PyProof.Rows.boot_tuple ha (by decide) (by decide) he rfl rfl
 rw[aK h1]at hf;cases hf
end
noncomputable def Jr(C:SC)(n:Str)(a:Expr):Option Expr:=match a with
 |.Call (.Name y _) [e] [] _=>if decide (y=n) && decide (slot C y=none) && J5 C y && i3 e then some e else none
 |_=>none
noncomputable def Pc(ev:Ev)(C:SC)(x:Str)(args:List Expr):En->Res:=match args with
 | [a] => (match Jr C "set" a with
  |some e=>if x="sorted" then g1 j0 (mh ev C e)else jz
  | none => (match US x with
    |some f=>if i3 a then g1 f (mh ev C a)else jz
    |none=>jz))
 | [a, .Name y _] => if x = "isinstance" then (match Qz y with
   |some c=>if i3 a && J5 C y then g1 (ba c) (mh ev C a)else jz
   |none=>jz)else jz
 |[a,b]=>if i3 a && i3 b then(if x="min" then g2 Ei (mh ev C a) (mh ev C b)else if x="max" then g2 Jm (mh ev C a) (mh ev C b)else jz)else jz
 |_=>jz
noncomputable def y8(T:GT)(ev:Ev)(C:SC)(x:Str)(args:List Expr):En->Res:=match slot C x with
 | some i => (match args with
  |[]=>jz
  |e::es=>if(e::es).all i3 then N1 T ev C i (e::es)else jz)
 | none => if J5 C x then (match T.fns x with
  | some s => (match args with
   |[]=>if s.ms=[]then(λ_=>s.f [])else jz
   |e::es=>if(e::es).all i3 then ai s.f (JJ ev C s.ms (e::es))else jz)
  |none=>Pc ev C x args)else jz
section
variable{T:GT}{ev tv:Ev}{X:Cx}{C:SC}{B:Hp}{E:XK}{pos p:Pos}{x:Str}{e a:Expr}{es:List Expr}
def Ui(O:XOk X C T E)(h:Jr C n a=some e):∃p pos,a=.Call (.Name n p) [e] [] pos/\Gl X n/\i3 e=true:=by
 unfold Jr at h;split at h
 ·rename_i y p e' pos;split at h
  ·rename_i c;cases h;simp only[aO,decide_eq_true_eq]at c;obtain⟨⟨⟨rfl,_⟩,h3⟩,h4⟩:=c;exact⟨p,pos,rfl,(O.gl h3).1,h4⟩
  ·cases h
 ·cases h
def PJ(h:ji T ev)(O:XOk X C T E)(hg:Gl X x):gj X B (ek (kx X) E) (.Call (.Name x p) args [] pos) (Pc ev C x args):=by
 unfold Pc;split
 ·rename_i a;cases hs:Jr C "set" a with
  |some e=>
   dsimp only;obtain⟨p2,pos2,rfl,hg2,hn⟩:=Ui O hs
   by_cases h1:x="sorted"
   ·subst h1;rw[aJ rfl];exact T5 (by have:=O.units;lia) O.calm hg (O.bl _ (by decide)) hg2 (O.bl _ (by decide)) (cq h O e) (a5 hn)
   ·rw[aK h1];exact cg
  |none=>
   dsimp only;cases hf:US x with
   |none=>exact cg
   |some f=>
    dsimp only
    by_cases hn:i3 a=true
    ·rw[aJ hn];exact JX O hf hg hn (cq h O a)
    ·rw[aK hn];exact cg
 ·rename_i a y p2
  by_cases hx:x="isinstance"
  ·subst hx;rw[aJ rfl];cases hf:Qz y with
   |none=>exact cg
   |some c=>
    dsimp only
    by_cases hn:(i3 a && J5 C y)=true
    ·rw[aJ hn];rw[aO]at hn;exact CW O hf hg (O.gl hn.2).1 hn.1 (cq h O a)
    ·rw[aK hn];exact cg
  ·rw[aK hx];exact cg
 ·rename_i a b _
  by_cases hn:(i3 a && i3 b)=true
  ·rw[aJ hn];rw[aO]at hn
   by_cases h1:x="min"
   ·subst h1;rw[aJ rfl];exact ED O.calm hg (O.bl _ (by decide)) (cq h O a) (cq h O b) (a5 hn.1) (a5 hn.2)
   ·rw[aK h1]
    by_cases h2:x="max"
    ·subst h2;rw[aJ rfl];exact EG O.calm hg (O.bl _ (by decide)) (cq h O a) (cq h O b) (a5 hn.1) (a5 hn.2)
    ·rw[aK h2];exact cg
  ·rw[aK hn];exact cg
 ·exact cg
def rj(h:ji T ev)(O:XOk X C T E):gj X B (ek (kx X) E) (.Call (.Name x p) args [] pos) (y8 T ev C x args):=by
 unfold y8;cases hs:slot C x with
 |some i=>
  cases args with
  |nil=>exact cg
  |cons e es=>
   dsimp only
   by_cases hn:(e::es).all i3=true
   ·rw[aJ hn];exact Vh h O hs hn
   ·rw[aK hn];exact cg
 |none=>
  dsimp only
  by_cases hg:J5 C x=true
  ·rw[aJ hg];obtain⟨g1,g2⟩:=O.gl hg;cases ef:T.fns x with
   |none=>exact PJ h O g1
   |some s=>
    obtain⟨k,f,fd,ps,hr,hm,hk,hb,F⟩:=O.fns x s ef;cases args with
    |nil=>
     dsimp only
     by_cases hms:s.ms=[]
     ·rw[aJ hms];rw[hms]at F;exact Yl F hr g1 hm hk hb O.goes g2
     ·rw[aK hms];exact cg
    |cons e es=>
     dsimp only
     by_cases hn:(e::es).all i3=true
     ·rw[aJ hn];have hn':=hn;rw[cP,aO]at hn';exact EM F hr g1 hm hk hb O.goes (F3 h O hn) g2 (a5 hn'.1) (ux hn'.2)
     ·rw[aK hn];exact cg
  ·rw[aK hg];exact cg
end
def QL:Expr->Option (Arguments×Expr×gI×Pos)
 |.Lambda a b c p=>some (a,b,c,p)
 |_=>none
def BI:Expr->Option Int
 |.Constant (.int i) _ _=>some i
 |_=>none
def BH(h:BI e=some i):∃kd cp,e=.Constant (.int i) kd cp:=by
 unfold BI at h;split at h
 ·cases h;exact⟨_,_,rfl⟩
 ·cases h
noncomputable def Cn(T:GT)(ev:Ev)(C:SC)(x:Str)(args:List Expr)(kw:iZ):En->Res:=match args with
 | [e] => (match QL kw.value with
  |some _=>jz
  | none => (match BI kw.value with
   |some c=>if decide (x="max") && J5 C x && decide (kw.arg=some "default") && i3 e then g1 (xn c) (mh ev C e)else jz
   |none=>jz))
 |_=>jz
def KS(h:ji T ev)(O:XOk X C T E):gj X B (ek (kx X) E) (.Call (.Name x p) args [kw] pos) (Cn T ev C x args kw):=by
 unfold Cn;split
 ·rename_i e;cases hl:QL kw.value with
  |none=>
   dsimp only;cases hi:BI kw.value with
   |none=>exact cg
   |some c=>
    dsimp only
    by_cases hc:(decide (x="max") && J5 C x && decide (kw.arg=some "default") && i3 e)=true
    ·rw[aJ hc];simp only[aO,decide_eq_true_eq]at hc;obtain⟨⟨⟨rfl,h2⟩,h3⟩,h4⟩:=hc;obtain⟨ka,kv,kp⟩:=kw;dsimp only at hi h3;subst h3;obtain⟨kd,cp,rfl⟩:=BH hi;exact EE O.calm (cq h O e) (O.gl h2).1 (O.bl _ (by decide)) h4
    ·rw[aK hc];exact cg
  |some q=>exact cg
 ·exact cg
def vf(C:SC)(x:Str):Bool:=decide (x="range") && decide (slot C x=none) && J5 C x
noncomputable def J0(ev:Ev)(C:SC)(iter:Expr):En->ResL:=match iter with
 |.Call (.Name x _) [a] [] _=>if vf C x && i3 a then ir (JJ ev C [true] [a])else a7 (mh ev C iter)
 |_=>a7 (mh ev C iter)
def BP(ev:Ev)(C:SC)(e:Expr):En->Res:=match e with
 | .Name x _ => (match slot C x with
  |some i=>yd i
  |none=>ev C e)
 |_=>ev C e
noncomputable def Zc(ev:Ev)(C:SC)(iter:Expr):En->ResL:=match iter with
 |.Call (.Name x _) [a] [] _=>if vf C x && i3 a then ir (JJ ev C [true] [a])else a7 (BP ev C iter)
 |_=>a7 (BP ev C iter)
section
variable{T:GT}{ev tv:Ev}{X:Cx}{C:SC}{B:Hp}{E:XK}{pos p:Pos}{x:Str}{e a tg:Expr}{es:List Expr}
def Vf(h:ji T ev)(O:XOk X C T E)(e:Expr):IJ X B (ek (kx X) E) e (BP ev C e):=by
 have d:IJ X B (ek (kx X) E) e (ev C e):=PH (h X C B E e O);cases e with
 |Name x p=>
  show IJ X B _ _ (match slot C x with
   |some i=>yd i
   |none=>ev C (.Name x p))
  cases es:slot C x with
  |none=>exact d
  |some i=>exact JS i (O.var es)
 |_=>exact d
def Mg(O:XOk X C T E)(h:vf C x=true):x="range"/\Gl X "range"/\X.mg "range"=none:=by
 unfold vf at h;simp only[aO,decide_eq_true_eq]at h;obtain⟨⟨h1,h2⟩,h3⟩:=h;subst h1;exact⟨rfl,(O.gl h3).1,O.bl _ (by decide)⟩
def WD(h:ji T ev)(O:XOk X C T E)(e:Expr):HZ X B (ek (kx X) E) tg e (Zc ev C e):=by
 unfold Zc;split
 ·rename_i x _ a _
  by_cases hc:(vf C x && i3 a)=true
  ·rw[aJ hc];rw[aO]at hc;obtain⟨rfl,g1,g2⟩:=Mg O hc.1;exact Ri g1 g2 (F3 h O (by rw[cP,hc.2];rfl)) (a5 hc.2)
  ·rw[aK hc];exact X7 (Vf h O _)
 ·exact X7 (Vf h O _)
noncomputable def Ip(C:SC)(tg iter:Expr):Option Expr:=match tg,iter with
 |.Tuple _ _ _,.Call (.Name y _) [e] [] _=>if decide (y="enumerate") && decide (slot C y=none) && J5 C y && i3 e then some e else none
 |_,_=>none
noncomputable def Pw(C:SC)(tg iter:Expr):Option (Expr×Expr):=match tg,iter with
 |.Tuple _ _ _,.Call (.Name y _) [a,b] [] _=>if decide (y="zip") && decide (slot C y=none) && J5 C y && i3 a && i3 b then some (a,b)else none
 |_,_=>none
def E6(ev:Ev)(C:SC)(tg iter:Expr):En->ResL:=match Ip C tg iter with
 |some e=>tf (BP ev C e)
 | none => (match Pw C tg iter with
  |some p=>N3 (aa (mh ev C p.1) (aa (mh ev C p.2) ah))
  |none=>Zc ev C iter)
def HJ(h:ji T ev)(O:XOk X C T E)(e:Expr):HZ X B (ek (kx X) E) tg e (E6 ev C tg e):=by
 unfold E6;cases he:Ip C tg e with
 |none=>
  dsimp only;cases hz:Pw C tg e with
  |none=>exact WD h O e
  |some p=>
   obtain⟨a,b⟩:=p;dsimp only;unfold Pw at hz;split at hz
   ·rename_i y p a' b' pos;split at hz
    ·rename_i c;cases hz;simp only[aO,decide_eq_true_eq]at c;obtain⟨⟨⟨⟨rfl,_⟩,h3⟩,h4⟩,h5⟩:=c;exact LL (O.gl h3).1 (O.bl _ (by decide)) (cq h O a) (cq h O b) h4 h5
    ·cases hz
   ·cases hz
 |some a=>
  dsimp only;unfold Ip at he;split at he
  ·rename_i y p a' pos;split at he
   ·rename_i c;cases he;simp only[aO,decide_eq_true_eq]at c;obtain⟨⟨⟨rfl,_⟩,h3⟩,h4⟩:=c;exact DD (O.gl h3).1 (O.bl _ (by decide)) (Vf h O a) (a5 h4)
   ·cases he
  ·cases he
def HK(h:ji T ev)(O:XOk X C T E)(e:Expr):R9 X B (ek (kx X) E) tg e (J0 ev C e):=by
 unfold J0;split
 ·rename_i x _ a _
  by_cases hc:(vf C x && i3 a)=true
  ·rw[aJ hc];rw[aO]at hc;obtain⟨rfl,g1,g2⟩:=Mg O hc.1;exact X8 (Ri g1 g2 (F3 h O (by rw[cP,hc.2];rfl)) (a5 hc.2))
  ·rw[aK hc];exact Rk (cq h O _)
 ·exact Rk (cq h O _)
end
noncomputable def Rw(ev:Ev)(C:SC)(o:Expr)(m:Str)(args:List Expr):En->Res:=match args with
 |[a]=>if Aj o && i3 a then(if m="index" then gM jd (mh ev C o) (mh ev C a)else jz)else jz
 |[a,b]=>if Aj o && i3 a && i3 b then(if m="get" then km (mh ev C o) (mh ev C a) (ev C b)else jz)else jz
 |_=>jz
def WA(h:ji T ev)(O:XOk X C T E){ap cp:Pos}(hl:(ap.endLine==cp.line)=true):gj X B (ek (kx X) E) (.Call (.Attribute o m ap) args [] cp) (Rw ev C o m args):=by
 unfold Rw;split
 ·rename_i a
  by_cases hc:(Aj o && i3 a)=true
  ·rw[aJ hc];rw[aO]at hc
   by_cases hm:m="index"
   ·subst hm;rw[aJ rfl];exact Yo O.units (cq h O o) (cq h O a) hc.1 hc.2 hl
   ·rw[aK hm];exact cg
  ·rw[aK hc];exact cg
 ·rename_i a b
  by_cases hc:(Aj o && i3 a && i3 b)=true
  ·rw[aJ hc];rw[aO,aO]at hc;obtain⟨⟨h1,h2⟩,h3⟩:=hc
   by_cases hm:m="get"
   ·subst hm;rw[aJ rfl];have hu:X.A.units+5<eD:=by have:=O.units;lia
    exact EJ hu (cq h O o) (cq h O a) (h X C B E b O) ⟨Be h1,by rw[uw (by rw[cP,cP,h2,h3];rfl)];rfl,hl,Mp h2 h3⟩
   ·rw[aK hm];exact cg
  ·rw[aK hc];exact cg
 ·exact cg
noncomputable def oj(ev tv:Ev)(C:SC)(elt:Expr)(gens:List Comprehension)(scope:gI):En->Res:=match gens with
 | [⟨.Name x _, iter, ifs, 0⟩] => if ue C scope [x] && mi iter then (match slots C (gp scope.names) with
  | some ix => (match ifs with
   |[]=>b9 (J0 ev C iter) ix (gC (.bl true)) (ev (rl C scope [x]) elt)
   |[c]=>b9 (J0 ev C iter) ix (tv (rl C scope [x]) c) (ev (rl C scope [x]) elt)
   |_=>jz)
  |none=>jz)else jz
 | [⟨.Tuple [.Name x px, .Name y py] k tp, iter, [], 0⟩] => if ue C scope [x, y] && mi iter then (match slots C (gp scope.names) with
  |some ix=>nq (E6 ev C (.Tuple [.Name x px,.Name y py] k tp) iter) (Bq ix (ev (rl C scope [x,y]) elt))
  |none=>jz)else jz
 |_=>jz
inductive CompV(X:Cx)(B:Hp)(E:EK)(elt:Expr)(gens:List Comprehension)(scope:gI)(G:En->Res):Prop
 |st (h:G=jz)
 |ok {tg iter:Expr} {ifs:List Expr} {xs M:List Str} {ix:List Nat} {td:D->Option (List D)} {t g:En->Res} {r:En->ResL} {f:En->D->Option (Option D)} (eg:gens=[⟨tg,iter,ifs,0⟩]) (eG:G=nq r f)
  (st:X.Ok->∃cl,CompOk X scope cl xs M ix/\BlockOk X B E scope cl xs M tg td elt ifs t g) (hF:∀W,Cr td (m7 ix W) t g (f W)) (hi:R9 X B E tg iter r) (hs:∀x,hJ iter X.env x=pure x)
section
variable{T:GT}{ev tv:Ev}{X:Cx}{C:SC}{B:Hp}{E:XK}{pos p:Pos}{elt:Expr}
def HQ(h:ji T ev)(ht:Fj T tv)(O:XOk X C T E):CompV X B (ek (kx X) E) elt gens scope (oj ev tv C elt gens scope):=by
 unfold oj;split
 ·rename_i x px iter ifs
  by_cases hc:(ue C scope [x] && mi iter)=true
  ·rw[aJ hc];rw[aO]at hc;obtain⟨hc,hset⟩:=hc;cases hx:slots C (gp scope.names)with
   |none=>exact .st rfl
   |some ix=>
    dsimp only;cases ifs with
    |nil=>
     refine .ok (tg:=.Name x px) (td:=UP) (ifs:=[]) (xs:=[x]) (M:=gp scope.names) (ix:=ix) (t:=gC (.bl true)) (g:=ev (rl C scope [x]) elt) rfl rfl (λok=>?_) (λW=>Zt) (HK h O iter) (rq hset);obtain⟨cl,O2⟩:=uf O ok hc hx;exact⟨cl,O2,R0 O2,.inl ⟨rfl,rfl⟩,λCc s₀ H₀ ex pn=>h _ _ B E0 elt (x8 O hc Cc s₀ H₀ ex pn)⟩
    |cons c r=>
     cases r with
     |nil=>
      refine .ok (tg:=.Name x px) (td:=UP) (ifs:=[c]) (xs:=[x]) (M:=gp scope.names) (ix:=ix) (t:=tv (rl C scope [x]) c) (g:=ev (rl C scope [x]) elt) rfl rfl (λok=>?_) (λW=>Zt) (HK h O iter) (rq hset);obtain⟨cl,O2⟩:=uf O ok hc hx;exact⟨cl,O2,R0 O2,.inr ⟨c,rfl,λCc s₀ H₀ ex pn=>ht _ _ B E0 c (x8 O hc Cc s₀ H₀ ex pn)⟩,λCc s₀ H₀ ex pn=>h _ _ B E0 elt (x8 O hc Cc s₀ H₀ ex pn)⟩
     |cons _ _=>exact .st rfl
  ·rw[aK hc];exact .st rfl
 ·rename_i x px y py k tp iter
  by_cases hc:(ue C scope [x,y] && mi iter)=true
  ·rw[aJ hc];rw[aO]at hc;obtain⟨hc,hset⟩:=hc;cases hx:slots C (gp scope.names)with
   |none=>exact .st rfl
   |some ix=>
    dsimp only;refine .ok (tg:=.Tuple [.Name x px,.Name y py] k tp) (td:=OJ) (ifs:=[]) (xs:=[x,y]) (M:=gp scope.names) (ix:=ix) (t:=gC (.bl true)) (g:=ev (rl C scope [x,y]) elt) rfl rfl (λok=>?_) (λW=>NF) (X8 (HJ h O iter)) (rq hset);obtain⟨cl,O2⟩:=uf O ok hc hx;exact⟨cl,O2,Zn O2 O.calm,.inl ⟨rfl,rfl⟩,λCc s₀ H₀ ex pn=>h _ _ B E0 elt (x8 O hc Cc s₀ H₀ ex pn)⟩
  ·rw[aK hc];exact .st rfl
 ·exact .st rfl
def C5(h:ji T ev)(ht:Fj T tv)(O:XOk X C T E):AN X B (ek (kx X) E) (.ListComp elt gens scope pos) (oj ev tv C elt gens scope)/\PY (oj ev tv C elt gens scope):=by
 cases HQ (B:=B) (elt:=elt) (gens:=gens) (scope:=scope) h ht O with
 |st e=>rw[e];exact⟨RY,λW d h=>by cases h⟩
 |ok eg eG st hF hi hs=>
  rw[eG];subst eg;refine⟨λpins s U H Q I q=>?_,Tb⟩;obtain⟨cl,O2,Bk⟩:=st I.ok;exact DL O2 O.calm Bk hF hi hs pins s U H Q I q
end
end Pu
end
section
namespace Pu
open PySem PySem.Spec PyProof.Rows L2 HT
section
variable{prog:bQ}{w:cF}{A:cS}{E:aH->aN->Prop}{s:aN}
def Fu{t sl:Addr}{items:Array aH}{vl vu:aH}{lo hi:Option Int}{Q:aH->aN->Prop}(ht:jN s.heap t items)(hs:s.heap.IsSliceOf sl vl vu .none)(pl:oQ vl lo)(pu:oQ vu hi)
  (hw:HT.jn items.size 0 lo=0/\HT.jn items.size items.size hi=items.size)(h:Q (.ref t) s):aQ (bI prog w) A (oR (.ref t) (.ref sl)) Q E s:=by
 obtain⟨os,hos,hcs,hds⟩:=id hs;have hTs:s.TypeIs (.ref sl) "slice":=⟨os,hos,hcs⟩;unfold oR
 try with_reducible refine dO ?_
 first|refine aA (aB ?_)|skip
 refine aA (wpAny_sequenceKey ht.typeIs (by decide) ?_);refine aA (cA (name:=dJ "__getitem__") ht.typeIs fL (bW fL ht.typeIs entry_tuple_getitem ?_ (args_tuple_getitem _ _)));show aQ _ _ (jV (.ref t)>>=_) _ _ s;refine aA (tupleItemsOf_ ht ?_);refine aA (hV hTs ?_);rw[aJ (by decide)];refine aA (HT.qz hs pl pu ?_);show aQ _ _ (if(((HT.jn items.size 0 lo:Nat):Int)==0 && (1:Int)==1 && (HT.jn items.size items.size hi - HT.jn items.size 0 lo)==items.size)=true then _ else _) _ _ s;rw[aJ (by rw[hw.1,hw.2];simp)];unfold Builtin.Tuple.tupleIsExact;refine aA (aA (hV ht.typeIs (aB ?_)));rw[aJ (by decide)];exact aA (iG (aB ⟨_,rfl,aB h⟩))
end
section
variable{X:Cx}
def XO(K:bA):V->Option Int->Option Int->Hp->VK->Prop:=λx lo hi H Q=>∃a xs,x=.ref a/\SqT K H a xs/\(HT.jn xs.length 0 lo=0/\HT.jn xs.length xs.length hi=xs.length)/\Q (.ref a) H
def Y9:SlR X (XO X.K):=by
 intro pins s U H x v vl vu lo hi sl Q I rx hs pl pu h;obtain⟨a,xs,rfl,hx,hw,q⟩:=h;cases rx;obtain⟨its,r,ht,hz⟩:=I.tuple hx;have hlen:its.toArray.size=xs.length:=by rw[bL];exact r.length.symm
 exact⟨"tuple",_,PyProof.Rows.slot_tuple_getitem.lookup,ht.typeIs,Fu ht hs pl pu (by rw[hlen];exact hw) ⟨.ref a,H,I,rfl,q⟩⟩
end
end Pu
end
section
namespace Pu
open PySem PySem.Spec PyProof.Rows L2
def zx(xs:List D)(lo hi:Option Int):List D:=(xs.drop (HT.jn xs.length 0 lo)).take (HT.jn xs.length xs.length hi - HT.jn xs.length 0 lo)
def o9(d:D)(lo hi:Option Int):Option D:=match d with
 |.lst xs=>some (.lst (zx xs lo hi))
 |.tup xs=>some (.tup (zx xs lo hi))
 |_=>none
def K3(ev:Ev)(C:SC)(o:Option Expr)(W:En):Option (Option Int):=match o with
 |none=>some none
 | some e => (match ev C e W with
  |.ok (.int i)=>some (some i)
  |_=>none)
def HL(o:Option (En->Res))(W:En):Option (Option Int):=match o with
 |none=>some none
 | some g => (match g W with
  |.ok (.int i)=>some (some i)
  |_=>none)
def M5(g:En->Res)(lo hi:Option (En->Res)):En->Res:=λW=>(g W).bind λd=>match HL lo W,HL hi W with
 |some l,some h=>Res.of (o9 d l h)
 |_,_=>.st
def N2(ev:Ev)(C:SC)(a:Expr)(lo hi:Option Expr):En->Res:=M5 (mh ev C a) (lo.map (ev C)) (hi.map (ev C))
def We{o:Option Expr}:HL (o.map (ev C)) W=K3 ev C o W:=by cases o<;>rfl
def DenL.cut{K:KA}{G:Hp}{ds:List D}{vs:List V}(dl:DenL K G ds vs)(lo hi:Option Int):DenL K G (zx ds lo hi) (Bw vs lo hi):=by
 unfold zx Bw;rw[dl.length];exact(dl.drop _).take _
section
variable{T:GT}{ev tv:Ev}{X:Cx}{C:SC}{B:Hp}{E:XK}{pos p:Pos}{a:Expr}
def Rc(h:ji T ev)(O:XOk X C T E):∃t:TO,PO X o t/\∀G W U H l (Q:Option Int->Hp->Prop),EnvR (kx X) B G H U W->K3 ev C o W=some l->(∀G' H',Ext G H G' H'->Q l H')->t U H Q:=by
 cases o with
 |none=>
  refine⟨_,EZ,λG W U H l Q R e q=>?_⟩;cases e;exact q G H (Ext.refl R.gh)
 |some e=>
  refine⟨_,EY (h X C B E0 e O.none),λG W U H l Q R ee q=>?_⟩;unfold K3 at ee;dsimp only at ee;cases eg:ev C e W with
  |ok d=>
   rw[eg]at ee;cases d with
   |int i=>
    cases ee;refine⟨G,W,R,?_⟩;rw[eg];exact λv G' H' x dn=>⟨i,dn,q G' H' x⟩
   |_=>cases ee
  |er c=>rw[eg]at ee;cases ee
  |st=>rw[eg]at ee;cases ee
def Za(h:ji T ev)(O:XOk X C T E){lo hi:Option Expr}{p2:Pos}:gj X B (ek (kx X) E) (.Subscript a (.Slice lo hi none p2) pos) (N2 ev C a lo hi):=by
 obtain⟨tl,hl,ql⟩:=Rc (B:=B) h O (o:=lo);obtain⟨th,hh,qh⟩:=Rc (B:=B) h O (o:=hi);refine PE.imp (X5 (SlR.or FI (SlR.or NS Y9)) (cq (B:=B) (E:=E) h O a) hl hh) λU H Q ⟨G,W,R,q⟩=>⟨G,W,R,(ResP.bind q).mono λd _ q v G1 H1 e1 av=>?_⟩;rw[We,We]at q;cases el:K3 ev C lo W with
 |none=>rw[el]at q;exact q.elim
 |some l=>
  cases eh:K3 ev C hi W with
  |none=>rw[el,eh]at q;exact q.elim
  |some hh=>
   rw[el,eh]at q;obtain⟨d',ed,q⟩:=ResP.of q;refine ql G1 W U H1 l _ (R.ext e1) el λG2 H2 e2=>qh G2 W U H2 hh _ (R.ext (e1.trans e2)) eh λG3 H3 e3=>?_;have e13:=(e1.trans e2).trans e3;have av':=(av.ext e2).ext e3;unfold o9 at ed;split at ed
   ·rename_i xs;cases ed;obtain⟨l',vs,rfl,sq,dl⟩:=av'.lst e3.gh;exact .inl ⟨l',vs,rfl,sq,λp hp=>q _ (upd G3 p (.lst (Bw vs l hh))) _ (e13.trans (Ext.new e3.gh _ hp)) (uh e3.gh hp (dl.cut l hh))⟩
   ·rename_i xs;cases ed;rcases av' with ⟨l',vs,rfl,s2,dl⟩|⟨_,_,_,z,_⟩|⟨_,_,_,z,_⟩
    case inr.inl=>cases z
    case inr.inr=>cases z
    have sq:SqT (kx X) H3 l' vs:=.inl (.inl (e3.gh _ _ s2))
    by_cases hw:HT.jn vs.length 0 l=0/\HT.jn vs.length vs.length hh=vs.length
    ·have ec:Bw vs l hh=vs:=by unfold Bw;rw[hw.1,hw.2,kH,Nat.sub_zero,List.take_length]
     have dc:=dl.cut l hh;rw[ec]at dc;exact .inr (.inr ⟨l',vs,rfl,sq,hw,q _ G3 H3 e13 ⟨l',vs,rfl,s2,dc⟩⟩)
    ·refine .inr ((.inl ⟨l',vs,rfl,sq,hw,λp hp=>q _ (upd G3 p (.tup (Bw vs l hh))) _ (e13.trans (Ext.new e3.gh _ hp)) (nj e3.gh hp (dl.cut l hh))⟩))
   ·cases ed
end
def Jz(ev:Ev)(C:SC)(a:Expr)(op:Operator)(b:Expr):En->Res:=(match AK op with
  |some f=>g2 f (mh ev C a) (mh ev C b)
  |none=>jz)
def JV(h:ji T ev)(O:XOk X C T E):gj X B (ek (kx X) E) (.BinOp a op b pos) (Jz ev C a op b):=by
 have gen:gj X B (ek (kx X) E) (.BinOp a op b pos) (match AK op with
  |some f=>g2 f (mh ev C a) (mh ev C b)
  |none=>jz):=by
  cases hf:AK op with
  |none=>exact cg
  |some f=>exact MY hf (cq h O a) (cq h O b)
 unfold Jz;exact gen
noncomputable def IT(T:GT)(ev tv:Ev)(C:SC)(e:Expr):En->Res:=match e with
 | .Constant c _ _ => (match c with
  |.none=>gC .non
  |.bool b=>gC (.bl b)
  |.int i=>gC (.int i)
  |.str x=>gC (.str x)
  |_=>jz)
 |.Name x _=>E7 T C x
 |.BinOp a op b _=>Jz ev C a op b
 | .UnaryOp op a _ => (match op with
  |.Not=>gc (ev C a)
  |_=>jz)
 | .BoolOp op vs _ => (match op with
  |.And=>K2 (ev C) vs
  |.Or=>Wd (ev C) vs)
 |.IfExp c a b _=>Qq (tv C c) (ev C a) (ev C b)
 |.Compare l ops rs _=>y9 ev C l ops rs
 |.Tuple es _ _=>if es.all i3 then iu (vy ev C es)else jz
 |.List es _=>if es.all i3 then fm (vy ev C es)else jz
 | .Subscript a i _ => (match i with
  |.Slice lo hi none _=>N2 ev C a lo hi
  |i=>if xm i then g2 aj (mh ev C a) (mh ev C i)else jz)
 |.ListComp elt gens scope _=>oj ev tv C elt gens scope
 | .Dict ks vs _ => (match ks, vs with
  |[],[]=>gC (.dct false [])
  |_,_=>jz)
 | .Call f args kws cp => (match f, kws with
  |.Name x _,[]=>y8 T ev C x args
  |.Name x _,[kw]=>Cn T ev C x args kw
  |.Attribute o m ap,[]=>if ap.endLine==cp.line then Rw ev C o m args else jz
  |_,_=>jz)
 |_=>jz
def cv(g:En->Res):En->Res:=g1 (λd=>bD (Ff d)) g
noncomputable def IR(T:GT)(ev tv:Ev)(C:SC)(e:Expr):En->Res:=match e with
 | .UnaryOp op a _ => (match op with
  |.Not=>gc (tv C a)
  |_=>g1 (λd=>bD (Ff d)) (mh ev C e))
 | .BoolOp op vs _ => (match op with
  |.And=>K2 (tv C) vs
  |.Or=>Wd (tv C) vs)
 |.Compare l ops rs _=>y9 ev C l ops rs
 |e=>if Jj e then g1 (λd=>bD (Ff d)) (mh ev C e)else jz
section
variable{T:GT}{ev tv:Ev}
def Zb(h:ji T ev)(ht:Fj T tv):ji T (IT T ev tv):=by
 intro X C B E e O;cases e with
 |Constant c k p=>
  cases c with
  |none=>exact MQ
  |bool b=>exact RQ
  |int i=>exact MV
  |str x=>exact MO
  |_=>exact cg
 |Name x p=>exact CB O
 |BinOp a op b p=>
  exact JV h O
 |UnaryOp op a p=>
  cases op with
  |Not=>exact MP (h X C B E a O)
  |_=>exact cg
 |BoolOp op vs p=>
  cases op with
  |And=>exact Pz λe=>h X C B E e O
  |Or=>exact Xq λe=>h X C B E e O
 |IfExp c a b p=>exact RO (ht X C B E c O) (h X C B E a O) (h X C B E b O)
 |Compare l ops rs p=>exact(Vo h O).1
 |Tuple es k p=>
  show gj X B _ _ (if es.all i3 then iu (vy ev C es)else jz)
  by_cases hn:es.all i3=true
  ·rw[aJ hn];exact MM xt (x9 h O hn)
  ·rw[aK hn];exact cg
 |List es p=>
  show gj X B _ _ (if es.all i3 then fm (vy ev C es)else jz)
  by_cases hn:es.all i3=true
  ·rw[aJ hn];exact MT xt (x9 h O hn)
  ·rw[aK hn];exact cg
 |Subscript a i p=>
  show gj X B _ _ (match i with
   |.Slice lo hi none _=>N2 ev C a lo hi
   |i=>if xm i then g2 aj (mh ev C a) (mh ev C i)else jz)
  split
  ·exact Za h O
  ·skip
   by_cases hp:xm i=true
   ·rw[aJ hp];exact RN (by have:=O.units;lia) (cq h O a) (cq h O i) (T2 hp)
   ·rw[aK hp];exact cg
 |Dict ks vs p=>
  cases ks with
  |nil=>
   cases vs with
   |nil=>exact RP
   |cons _ _=>exact cg
  |cons _ _=>exact cg
 |ListComp elt gens scope p=>exact Xx (C5 h ht O).1 (C5 (X:=X) (B:=B) (E:=E) (pos:=p) h ht O).2
 |Call f args kws p=>
  show gj X B _ _ (match f,kws with
   |.Name x _,[]=>y8 T ev C x args
   |.Name x _,[kw]=>Cn T ev C x args kw
   |.Attribute o m ap,[]=>if ap.endLine==p.line then Rw ev C o m args else jz
   |_,_=>jz)
  split
  ·exact rj h O
  ·exact KS h O
  ·rename_i o m ap
   by_cases hl:(ap.endLine==p.line)=true
   ·rw[aJ hl];exact WA h O hl
   ·rw[aK hl];exact cg
  ·exact cg
 |_=>exact cg
def Zf(h:ji T ev)(ht:Fj T tv):Fj T (IR T ev tv):=by
 intro X C B E e O;have pl:∀{e:Expr},Fi X B (ek (kx X) E) e (if Jj e then g1 (λd=>bD (Ff d)) (mh ev C e)else jz):=λ{e}=>by
  by_cases hp:Jj e=true
  ·rw[aJ hp];exact Yj (cq h O e) (Hg hp)
  ·rw[aK hp];exact Bh
 cases e with
 |UnaryOp op a p=>
  cases op with
  |Not=>exact EN (ht X C B E a O)
  |_=>exact Yj (cq h O _) (Hg rfl)
 |BoolOp op vs p=>
  cases op with
  |And=>exact RT (P0 λe=>ht X C B E e O)
  |Or=>exact RT (Xr λe=>ht X C B E e O)
 |Compare l ops rs p=>exact(Vo h O).2
 |_=>exact pl
end
def gP(T:GT):Nat->Bool->Ev
 |0,_=>λ_ _=>jz
 |n+1,false=>IT T (gP T n false) (gP T n true)
 |n+1,true=>IR T (gP T n false) (gP T n true)
theorem Gm(T:GT):∀n,ji T (gP T n false)/\Fj T (gP T n true)
 |0=>⟨λ_ _ _ _ _ _=>cg,λ_ _ _ _ _ _=>Bh⟩
 |n+1=>⟨Zb (Gm T n).1 (Gm T n).2,Zf (Gm T n).1 (Gm T n).2⟩
noncomputable def frz(i:Nat)(W:En):En:=match W[i]? with
 |some (.ow ds)=>W.set i (.pu (.lst ds))
 |some (.od t kvs)=>W.set i (.pu (.dct t kvs))
 |_=>W
def frzs(is:List Nat)(W:En):En:=is.foldl (λW i=>frz i W) W
section
variable{K:KA}{B G0 G H:Hp}{U:St}{W:En}
def SlOk.gmono(e:Same G G')(h:SlOk K B G H s o):SlOk K B G' H s o:=by
 cases s with
 |no=>trivial
 |pu d=>obtain⟨v,h1,h2⟩:=h;exact⟨v,h1,h2.mono e⟩
 |bo d=>obtain⟨v,h1,h2⟩:=h;exact⟨v,h1,PN e h2⟩
 |ow ds=>obtain⟨a,vs,h1,h2,h3⟩:=h;exact⟨a,vs,h1,h2,h3.mono e⟩
 |od t kvs=>
  cases t with
  |false=>obtain⟨a,vs,h1,h2,h3⟩:=h;exact⟨a,vs,h1,h2,h3.mono e⟩
  |true=>obtain⟨a,vs,h1,h2,h3⟩:=h;exact⟨a,vs,h1,h2,h3.mono e⟩
def Ext.frzO(e:Ext G0 B G H)(bn:B a=none)(gn:G a=none)(h:H a=some o):Ext G0 B (upd G a o) H:=by
 refine⟨e.gg.trans (d9 gn _),e.hh,λb u q=>?_,λb u q g z=>?_⟩
 ·by_cases z:b=a
  ·subst z;rw[bp]at q;rw[h];exact q
  ·rw[aq z]at q;exact e.gh b u q
 ·rw[aq (bj q bn)];exact e.fr b u q g z
def EnvR.frzAt(R:EnvR K B G H U W){s:Sl}(hi:W[i]?=some s)(ho:s.own=true)(hs:U[i]?=some (some (V.ref a)))(ha:H a=some o)(hd:Den K (upd G a o) d (.ref a)):
  EnvR K B (upd G a o) H U (W.set i (.pu d)):=by
 obtain⟨gn,bn⟩:=R.own i s a hi ho hs;have hl:i<W.length:=(List.getElem?_eq_some_iff.mp hi).1;have sm:Same G (upd G a o):=d9 gn _;refine⟨R.bh,λb u q=>?_,by rw[cC];exact R.len,λj t q=>?_,λj t b q1 q2 q3=>?_,λj k t u b q1 q2 q3 q4 q5 q6=>?_,R.gb⟩
 ·by_cases z:b=a
  ·subst z;rw[bp]at q;rw[ha];exact q
  ·rw[aq z]at q;exact R.gh b u q
 ·by_cases z:i=j
  ·subst z;rw[aS hl]at q;cases q;exact⟨_,hs,_,rfl,hd⟩
  ·rw[aV z]at q;obtain⟨o',z1,z2⟩:=R.sl j t q;exact⟨o',z1,z2.gmono sm⟩
 ·by_cases z:i=j
  ·subst z;rw[aS hl]at q1;cases q1;cases q2
  ·rw[aV z]at q1;obtain⟨g,b'⟩:=R.own j t b q1 q2 q3;refine⟨?_,b'⟩;have nb:b≠a:=by
    rintro rfl
    exact z (R.dis i j _ _ b hi q1 ho q2 hs q3)
   rw[aq nb];exact g
 ·have hj:i≠j:=by
   rintro rfl
   rw[aS hl]at q1;cases q1;cases q3
  have hk:i≠k:=by
   rintro rfl
   rw[aS hl]at q2;cases q2;cases q4
  rw[aV hj]at q1;rw[aV hk]at q2;exact R.dis j k t u b q1 q2 q3 q4 q5 q6
theorem EnvR.frz(R:EnvR K B G H U W)(e:Ext G0 B G H)(i:Nat):∃G',Same G G'/\EnvR K B G' H U (frz i W)/\Ext G0 B G' H:=by
 unfold Pu.frz;cases ed:W[i]? with
 |none=>exact⟨G,Same.refl G,R,e⟩
 |some s=>
  cases s with
  |ow ds=>
   obtain⟨a,vs,q1,q2,q3,gn,bn⟩:=R.owAt ed;exact⟨_,d9 gn _,R.frzAt ed rfl q1 q2 ⟨a,vs,rfl,SqL.of bp,q3.mono (d9 gn _)⟩,e.frzO bn gn q2⟩
  |od t kvs=>
   obtain⟨o,q1,q2⟩:=R.sl i _ ed;cases t with
   |false=>
    obtain⟨a,es,rfl,q3,q4⟩:=q2;obtain⟨gn,bn⟩:=R.own i _ a ed rfl q1;exact⟨_,d9 gn _,R.frzAt ed rfl q1 q3 ⟨a,rfl,.inl ⟨rfl,es,bp,q4.mono (d9 gn _)⟩⟩,e.frzO bn gn q3⟩
   |true=>
    obtain⟨a,es,rfl,q3,q4⟩:=q2;obtain⟨gn,bn⟩:=R.own i _ a ed rfl q1;exact⟨_,d9 gn _,R.frzAt ed rfl q1 q3 ⟨a,rfl,.inr ⟨rfl,es,bp,q4.mono (d9 gn _)⟩⟩,e.frzO bn gn q3⟩
  |no=>exact⟨G,Same.refl G,R,e⟩
  |pu _=>exact⟨G,Same.refl G,R,e⟩
  |bo _=>exact⟨G,Same.refl G,R,e⟩
theorem EnvR.frzs:∀(is:List Nat){G:Hp}{W:En},EnvR K B G H U W->Ext G0 B G H->∃G',Same G G'/\EnvR K B G' H U (frzs is W)/\Ext G0 B G' H
 |[],G,W,R,e=>⟨G,Same.refl G,R,e⟩
 |i::is,G,W,R,e=>by
  obtain⟨G1,s1,R1,e1⟩:=R.frz e i;obtain⟨G2,s2,R2,e2⟩:=EnvR.frzs is R1 e1;exact⟨G2,s1.trans s2,R2,e2⟩
end
section
variable{X:Cx}{G0 B:Hp}{E:EK}{st:Stmt}{F:En->Out}
def SW(is:List Nat)(h:tq X G0 B E st F):tq X G0 B E st (λW=>F (frzs is W)):=PS.imp h λD U H ⟨G,W,R,e,q⟩=>by
 obtain⟨G',s,R',e'⟩:=EnvR.frzs is R e;exact⟨G',_,R',e',OutP.same s q⟩
end
section
variable{X:Cx}{G0 B:Hp}{E:EK}{scope:gI}{cl:List (Str×Addr)}{xs:List Str}{y:Str}{M:List Str}{ix:List Nat}{elt iter tg:Expr}{ifs:List Expr}{pos pos' lpos:Pos}{r:En->ResL}{t g:En->Res}{i:Nat}{td:D->Option (List D)}{f:En->D->Option (Option D)}
def NY(O:CompOk X scope cl xs M ix)(hc:X.calm=true)(Bk:BlockOk X B E scope cl xs M tg td elt ifs t g)(hF:∀W,Cr td (m7 ix W) t g (f W))(hi:R9 X B E tg iter r)(hN:X.N.Nodup)(hy:X.N[i]?=some y)(hl:L2.GB X.env.scope y)(hf:X.fn y=true)
  (hs:∀x,hJ iter X.env x=pure x)(hsw:gO (.ListComp elt [⟨tg,iter,ifs,0⟩] scope lpos) (some (.Name y pos')) pos.line X.env=pure true):
  tq X G0 B E (.Assign [.Name y pos'] (.ListComp elt [⟨tg,iter,ifs,0⟩] scope lpos) pos) (iz i (nq r f)):=by
 intro pins s U H D I ⟨G,W,R,ex,q⟩;have q:=rf ex q;rw[exec_Assign_Name_used _ _ _ _ hsw,arm_evalThenUse_ListComp];refine aA (wpAny_standAt ?_);refine aA (aA ?_);refine wpAny_comprehension_free (use:=some (assign (.Name y pos') X.env)) (Q:=λ_ s'=>aQ (bI X.prog X.w) X.A (pure PUnit.unit:Sem PUnit) (λ_ s'=>aQ (bI X.prog X.w) X.A (pure Flow.next:Sem Flow) (SP X pins D) X.xe s') X.xe s') rfl hs (vt O.clos) O.kind O.names ?_;refine cK (hi pins s U H (λJ H1=>∃G1 ds ys,Ext G H G1 H1/\zi (kx X) J ds (λG2 H2=>Ext G1 H1 G2 H2)/\ds.length<=aM/\lx (f W) ds=some ys/\OutP (kx X) G0 B E G (.nx (W.set i (.ow ys))) D) I
  ⟨G,W,R,(HR q).mono λds _ ⟨hl,ys,ey,q⟩ J G1 H1 e1 ok=>⟨G1,ds,ys,e1,ok,hl,ey,q⟩⟩) (λv s1 h1=>cK h1 (λitv s2 h2=>?_) λ_ _ e=>e) λ_ _ e=>e
 obtain⟨it,fp,tn,J,H1,rfl,I1,T,st,hfp,G1,ds,ys,e1,ok,hl',ey,q⟩:=h2;refine Km (RR:=λacc C=>compPost (bI X.prog X.w) X.A X.xe (some (assign (.Name y pos') X.env)) (λ_ s'=>aQ (bI X.prog X.w) X.A (pure PUnit.unit:Sem PUnit) (λ_ s'=>aQ (bI X.prog X.w) X.A (pure Flow.next:Sem Flow) (SP X pins D) X.xe s') X.xe s') acc C) O hc Bk I1 T st hfp (R.ext e1) ok hl' (hF W) ey ?_;intro s3 H3 G3 vs m I3 hm hC e3 g3 h3 dl;have hsz:s2.heap.objs.size<=s2.heap.objs.size+1:=mH _;have ltL:X.env.locals<s2.heap.objs.size:=I1.lt;have ltc:∀y c,X.env.cells.lookup y=some c->c<s2.heap.objs.size:=λy c e=>by
  obtain⟨v',q'⟩:=I1.cell y c e;exact q'.lt
 refine wpAny_assign_Name (Hl (v:=.ref s2.heap.objs.size) I3 hN hy hl rfl (λs4 I4 ⟨a,hsb,ha⟩=>?_) (.inl hf));have la:a<s2.heap.objs.size:=by
  rcases ha with z|z
  ·rw[z];exact ltL
  ·exact ltc _ _ z
 have na:s2.heap.objs.size+1≠a:=(vi la).symm;refine⟨m,hm.sameBut hsb na,λh' hs'=>aB (aB ⟨U.set i (some (V.ref s2.heap.objs.size)),H3,?_,?_⟩)⟩
 ·refine I4.turned (t':=s4.toks) (it:=s2.heap.objs.size+1) (λb o hb e=>hs'.extBut b o hb e) hC ?_ (.inr (cM I1.sz hsz)) ?_ ?_
  ·exact(vi ltL).symm
  ·intro z c hc';exact vi (ltc z c hc')
  ·intro p hp z;exact absurd (bS (aP (I1.pin p hp).1) (cM hsz (jD z.symm))) (cO _)
 ·exact q _ G3 H3 (e1.trans e3).gg (R.setO (e1.trans e3) (cz e1.hh (I1.hok.fresh (aR _))) g3 h3 dl) (ex.trans (e1.trans e3))
end
structure SOk(X:Cx)(C:SC)(T:GT)(E:XK):Prop extends XOk X C T E where
 fn:∀x,x∉vg->X.fn x=true
 pass:PassesOwn (bI X.prog X.w) X.A X.env X.xe
 stk:X.stack=X.env::X.outer
 frm:X.env.frame=some X.env.locals
 ex0:X.ex=[]
def wb(C:SC)(x:Str):Option Nat:=if K6 C.sc x && pq x && decide (x∉vg)then Wu x C.N 0 else none
def D4{C:SC}(h:wb C x=some i):C.N[i]?=some x/\K6 C.sc x=true/\x∉vg:=by
 unfold wb at h
 by_cases e:(K6 C.sc x && pq x && decide (x∉vg))=true
 ·rw[aJ e]at h;rw[aO,aO]at e;obtain⟨_,q⟩:=I8 h;exact⟨by simpa using q,e.1.1,of_decide_eq_true e.2⟩
 ·rw[aK e]at h;cases h
section
variable{X:Cx}{C:SC}{T:GT}{x:Str}{i:Nat}{pos:Pos}
def SOk.tg(O:SOk X C T E)(h:wb C x=some i):PG X (.Name x pos) (ti i):=by
 obtain⟨h1,h2,h3⟩:=D4 h;exact Cj (by rw[O.n];exact O.nd) (by rw[O.n];exact h1) (by rw[O.s];exact Dp h2) (.inl (O.fn x h3))
def SOk.st(O:SOk X C T E)(h:wb C x=some i)(he:PE X e te)(hs:gO e (some (.Name x pos')) pos.line X.env=pure false):PS X (.Assign [.Name x pos'] e pos) (Mu te (ti i)):=by
 obtain⟨h1,h2,h3⟩:=D4 h;exact LD (by rw[O.n];exact O.nd) (by rw[O.n];exact h1) (by rw[O.s];exact Dp h2) he hs (.inl (O.fn x h3))
end
def Er:List Nat->List D->En->Option En
 |[],[],W=>some W
 |i::is,d::ds,W=>Er is ds (W.set i (.pu d))
 |_,_,_=>none
noncomputable def sj(C:SC):List Expr->Option (List Nat)
 |[]=>some []
 |e::r=>match e with
  | .Name x _ => (match wb C x, sj C r with
   |some i,some is=>some (i::is)
   |_,_=>none)
  |_=>none
def yf(is:List Nat):D->En->Option En:=λd W=>match d with
 |.tup ds=>Er is ds W
 |_=>none
theorem Es:∀{is:List Nat}{ds:List D}{W δ':En},Er is ds W=some δ'->ds.length=is.length
 |[],[],_,_,_=>rfl
 |[],_::_,_,_,h=>by cases h
 |_::_,[],_,_,h=>by cases h
 |i::is,d::ds,W,δ',h=>by
  have:=Es (is:=is) (ds:=ds) h;rw[aL,aL,this]
section
variable{X:Cx}{C:SC}{T:GT}{B:Hp}
theorem Lv(O:SOk X C T E):∀{es:List Expr}{is:List Nat},sj C es=some is->(∃t:OT,PU X es t/\∀{G H:Hp}{U:St}{W δ':En}{ds:List D}{vs:List V}{Q:St->Hp->Prop},EnvR (kx X) B G H U W->DenL (kx X) G ds vs->Er is ds W=some δ'->
  (∀σ',EnvR (kx X) B G H σ' δ'->Q σ' H)->t vs U H Q)/\(jX es X.env).length=is.length/\(jX es X.env).findIdx? (·.1)=none
 |[],is,h=>by
  cases h;refine⟨⟨_,Rh,λ{G H U W δ' ds vs Q} R dl e q=>?_⟩,rfl,rfl⟩;cases ds with
  |nil=>
   cases e;exact⟨dl,q U R⟩
  |cons _ _=>cases e
 |e::r,is,h=>by
  unfold sj at h;cases e with
  |Name x p=>
   dsimp only at h;cases e1:wb C x with
   |none=>rw[e1]at h;cases h
   |some i=>
    cases e2:sj C r with
    |none=>rw[e1,e2]at h;cases h
    |some is'=>
     rw[e1,e2]at h;cases h;obtain⟨⟨t,p1,p2⟩,p3,p4⟩:=Lv O e2;refine⟨⟨_,Eb (O.tg e1) p1 rfl,λ{G H U W δ' ds vs Q} R dl e q=>?_⟩,?_,?_⟩
     ·cases ds with
      |nil=>cases e
      |cons d ds=>
       obtain⟨v,vr,rfl,dv,dr⟩:=dl;exact⟨v,vr,rfl,p2 (R.set dv) dr e q⟩
     ·show(jX r X.env).length+1=is'.length+1;rw[p3]
     ·show List.findIdx? _ ((false,_)::jX r X.env)=none;rw[List.findIdx?_cons];simp[p4]
  |_=>cases h
def NI(O:SOk X C T E)(h:sj C es=some is):∃gl,TgOk X B (.Tuple es k p) gl (yf is):=by
 obtain⟨⟨t,p1,p2⟩,p3,p4⟩:=Lv (B:=B) O h;refine⟨_,X6 O.calm p1 p3 p4,λ{G H U W δ' d v Q} R dn e q=>?_⟩;cases d with
 |tup ds=>
  obtain⟨a,vs,rfl,sq,dl⟩:=dn;have hl:=Es (show Er is ds W=some δ' from e);exact⟨a,vs,rfl,SqT.of (R.gh _ _ sq),by rw[<-dl.length,hl],p2 R dl e q⟩
 |_=>cases e
end
noncomputable def Zm(C:SC)(tg:Expr):Option (D->En->Option En):=match tg with
 |.Name x _=>(wb C x).map ar
 |.Tuple es _ _=>(sj C es).map yf
 |_=>none
def GW(O:SOk X C T E)(h:Zm C tg=some f):∃gl,TgOk X B tg gl f:=by
 unfold Zm at h;split at h
 ·rename_i x p;cases e:wb C x with
  |none=>rw[e]at h;cases h
  |some i=>rw[e]at h;cases h;exact⟨_,GV (O.tg e)⟩
 ·rename_i es k p;cases e:sj C es with
  |none=>rw[e]at h;cases h
  |some is=>rw[e]at h;cases h;exact NI O e
 ·cases h
section
variable{X:Cx}{G0 B:Hp}{E:EK}{e a k:Expr}{g h:En->Res}{pos:Pos}{st:Stmt}{F F':En->Out}
def yu(g:En->Res):En->Out:=λW=>(g W).then λ_=>.nx W
def MA(ha:gj X B E e g)(hs:gO e none pos.line X.env=pure false):tq X G0 B E (.Expr e pos) (yu g):=PS.imp (Ck ha hs) λD U H ⟨G,W,R,ex,q⟩=>
 ⟨G,W,R,(rf ex q).mono λd _ q v G' H' e1 dn=>q U G' H' e1.gg (R.ext e1) (ex.trans e1)⟩
def IU:En->Out:=λ_=>.rt .non
def NZ:tq X G0 B E (.Return none pos) IU:=PS.imp ET λD U H ⟨G,W,R,ex,q⟩=>q .non G H ex rfl
def Hn:gO a (some (.Subscript o i p)) n env=pure false:=by
 cases a<;>rfl
end
section
variable{T:GT}{ev:Ev}{X:Cx}{C:SC}{G0 B:Hp}{E:XK}
def kc(c:Str)(r:En->ResL):En->Out:=λW=>match r W with
 |.ok _=>.er c
 |.er c'=>.er c'
 |.st=>.st
def FN(h:ji T ev)(O:XOk X C T E)(hx:T.xs.exc x=true)(hg:J5 C x=true)(hn:(e::es).all i3=true)(hl:(e::es).length<=1000):
  tq X G0 B (ek (kx X) E) (.Raise (some (.Call (.Name x np) (e::es) [] cpos)) none pos) (kc x (vy ev C (e::es))):=by
 obtain⟨Cc,bm,nid,hm,hxx,HB⟩:=O.exc x hx;obtain⟨g1,g2⟩:=O.gl hg;have hn':=hn;rw[cP,aO]at hn';refine PS.imp (Yg O.calm g1 hm hxx HB O.goes (x9 (B:=B) h O hn) g2 (a5 hn'.1) (ux hn'.2)) λD U H ⟨G,W,R,ex,q⟩=>⟨G,W,R,?_⟩;unfold kc at q;cases er:vy ev C (e::es) W with
 |ok ds=>
  rw[er]at q;intro vs G' H' e1 al;refine⟨?_,?_⟩
  ·have:=al.length.2;rw[aF]at this;rw[this];exact cM hl (by decide)
  ·have z:=q G' H' (ex.trans e1);have z':E (.ref (Fh X.mg x)) none H':=z;rw[m6 hm]at z';exact z'
 |er c=>rw[er]at q;exact λG' H' e1=>q G' H' (ex.trans e1)
 |st=>rw[er]at q;exact q
def HU:Expr->Option (Expr×List Expr×List iZ×Pos)
 |.Call f a k p=>some (f,a,k,p)
 |_=>none
def Vg(h:HU e=some (f,a,k,p)):e=.Call f a k p:=by
 cases e<;>first|(cases h;rfl)|cases h
def HE:Expr->Option (Str×Pos)
 |.Name x p=>some (x,p)
 |_=>none
def Xd(h:HE e=some (x,p)):e=.Name x p:=by
 cases e<;>first|(cases h;rfl)|cases h
def Yw:Stmt->Option (Option Expr×Option Expr×Pos)
 |.Raise e c p=>some (e,c,p)
 |_=>none
def Ue{st:Stmt}{e c:Option Expr}{p:Pos}(h:Yw st=some (e,c,p)):st=.Raise e c p:=by
 cases st<;>first|(cases h;rfl)|cases h
noncomputable def Jn(st:Stmt):Option (Str×Expr×List Expr):=(Yw st).bind λq=>q.1.bind λw=>(HU w).bind λc=>(HE c.1).bind λx=>match c.2.1,c.2.2.1,q.2.1 with
 |e::es,[],none=>some (x.1,e,es)
 |_,_,_=>none
def Ud{st:Stmt}{x:Str}{e:Expr}{es:List Expr}(h:Jn st=some (x,e,es)):∃np cpos pos,st=.Raise (some (.Call (.Name x np) (e::es) [] cpos)) none pos:=by
 unfold Jn at h;simp only[Option.bind_eq_some_iff]at h;obtain⟨⟨q1,q2,q3⟩,h1,w,h0,⟨c1,c2,c3,c4⟩,h2,⟨y1,y2⟩,h3,h4⟩:=h;dsimp only at h0 h2 h3 h4;split at h4
 ·cases h4;exact⟨_,_,_,by rw[Ue h1,h0,Vg h2,Xd h3]⟩
 ·cases h4
noncomputable def Aq(T:GT)(ev:Ev)(C:SC)(st:Stmt):En->Out:=match Jn st with
 |some (x,e,es)=>if T.xs.exc x && J5 C x && (e::es).all i3 && decide ((e::es).length<=1000)then kc x (vy ev C (e::es))else vo
 |none=>vo
def Yx(h:ji T ev)(O:XOk X C T E){st:Stmt}:tq X G0 B (ek (kx X) E) st (Aq T ev C st):=by
 unfold Aq;cases hp:Jn st with
 |none=>exact pz
 |some t=>
  obtain⟨x,e,es⟩:=t;obtain⟨np,cpos,pos,rfl⟩:=Ud hp;dsimp only
  by_cases hc:(T.xs.exc x && J5 C x && (e::es).all i3 && decide ((e::es).length<=1000))=true
  ·rw[aJ hc];simp only[aO]at hc;exact FN h O hc.1.1.1 hc.1.1.2 hc.1.2 (of_decide_eq_true hc.2)
  ·rw[aK hc];exact pz
end
mutual
def Nq:Nat->GT->Expr->List Str
 |0,_,_=>[]
 |n+1,T,e=>match e with
  |.Name x _=>[x]
  |.IfExp c a b _=>Dd n T c++Nq n T a++Nq n T b
  |.BoolOp _ vs _=>vs.flatMap (Nq n T)
  |e=>Dd n T e
def Dd:Nat->GT->Expr->List Str
 |0,_,_=>[]
 |n+1,T,e=>match e with
  |.BinOp a _ b _=>Dd n T a++Dd n T b
  |.UnaryOp _ a _=>Dd n T a
  |.BoolOp _ vs _=>vs.flatMap (Dd n T)
  |.IfExp c a b _=>Dd n T c++Nq n T a++Nq n T b
  |.Compare l _ rs _=>Dd n T l++rs.flatMap (Dd n T)
  |.Tuple es _ _=>es.flatMap (Nq n T)
  |.List es _=>es.flatMap (Nq n T)
  |.Subscript a i _=>Dd n T a++Dd n T i
  |.ListComp elt gens _ _=>Nq n T elt++gens.flatMap λg=>Dd n T g.iter++g.ifs.flatMap (Dd n T)
  | .Call (.Name f _) args _ _ => (match T.fns f with
   |some s=>(s.ms.zip args).flatMap λp=>if p.1 then Dd n T p.2 else Nq n T p.2
   |none=>args.flatMap (Dd n T))
  |.Call (.Attribute o _ _) args _ _=>Dd n T o++args.flatMap (Nq n T)
  |_=>[]
end
noncomputable def ZP(T:GT)(st:Stmt):List Str:=match st with
 |.Return (some e) _=>Nq 30 T e
 |.Assign [.Name _ _] e _=>Nq 30 T e
 |.Assign [.Subscript _ k _] e _=>Nq 30 T e++Dd 30 T k
 |.AugAssign _ _ e _=>Dd 30 T e
 |.Expr (.Call (.Attribute (.Name _ _) m _) args _ _) _=>if m="extend" then args.flatMap (Dd 30 T)else args.flatMap (Nq 30 T)
 |.Expr e _=>Dd 30 T e
 |.If c _ _ _=>Dd 30 T c
 |.For _ iter _ _ _=>Nq 30 T iter
 |.Try [.Expr e _] _ _ _ _=>Dd 30 T e
 |.Try [.Assign [.Name _ _] e _] _ _ _ _=>Dd 30 T e
 |_=>[]
def FH(C:SC)(xs:List Str):List Nat:=xs.filterMap (slot C)
noncomputable def Ta(T:GT)(C:SC)(x y:Str):Bool:=decide (x=y) && decide (slot C x=none) && J5 C x && (T.fns x).isNone
def Qw(O:XOk X C T E)(h:Ta T C x y=true):x=y/\Gl X x:=by
 unfold Ta at h;simp only[aO,decide_eq_true_eq]at h;exact⟨h.1.1.1,(O.gl h.1.2).1⟩
noncomputable def Mr(T:GT)(ev:Ev)(C:SC)(e:Expr):Option (En->Res):=match e with
 |.List es _=>if es.all i3 then some (fm (vy ev C es))else none
 |.Call (.Name x _) [a] [] _=>if Ta T C x "list" then(if i3 a then some (g1 iy (mh ev C a))else none)else none
 |_=>none
noncomputable def k8(ev:Ev)(C:SC)(e:Expr):Option (En->ResE):=match e with
 |.Call (.Attribute (.Name x _) m ap) [k,v] [] cp=>if m="setdefault" && i3 k && i3 v && (ap.endLine==cp.line)then(slot C x).map λi=>iw i (mh ev C k) (ev C v)else none
 |_=>none
noncomputable def Mq(ev tv:Ev)(C:SC)(e:Expr):Option (En->ResE):=match e with
 | .IfExp c a b _ => (match k8 ev C a, k8 ev C b with
  |some f,none=>some (B0 (tv C c) f (Dm (ev C b)))
  |none,some f=>some (B0 (tv C c) (Dm (ev C a)) f)
  |some f,some f'=>some (B0 (tv C c) f f')
  |none,none=>none)
 |e=>k8 ev C e
noncomputable def E5(ev:Ev)(C:SC)(e:Expr):Option (En->ResE):=match e with
 | .Compare l [op] [r] _ => (match k8 ev C l, Ie op with
  |some f,some p=>if mi r then some (A9 p f (mh ev C r))else none
  |_,_=>none)
 |_=>none
section
variable{T:GT}{ev tv:Ev}{X:Cx}{C:SC}{G0 B:Hp}{E:XK}
def Di(h:ji T ev)(O:XOk X C T E)(hf:k8 ev C e=some f):AU X G0 B (ek (kx X) E) e f:=by
 unfold k8 at hf;split at hf
 ·rename_i x p m ap k v cp
  by_cases hc:(decide (m="setdefault") && i3 k && i3 v && (ap.endLine==cp.line))=true
  ·rw[aJ hc]at hf;simp only[aO,decide_eq_true_eq]at hc;obtain⟨⟨⟨rfl,h2⟩,h3⟩,h4⟩:=hc;cases hs:slot C x with
   |none=>rw[hs]at hf;cases hf
   |some i=>
    rw[hs]at hf;cases hf;dsimp only;exact Sz (O.var hs) (cq h O k) (h X C B E v O) h2 h3 h4
  ·rw[aK hc]at hf;cases hf
 ·cases hf
def WH(h:ji T ev)(ht:Fj T tv)(O:XOk X C T E)(hf:Mq ev tv C e=some f):AU X G0 B (ek (kx X) E) e f:=by
 unfold Mq at hf;split at hf
 ·rename_i c a b p;cases h1:k8 ev C a with
  |none=>
   cases h2:k8 ev C b with
   |none=>rw[h1,h2]at hf;cases hf
   |some f'=>rw[h1,h2]at hf;cases hf;exact Vz (ht X C B E c O) (Qg (h X C B E a O)) (Di h O h2)
  |some f'=>
   cases h2:k8 ev C b with
   |none=>rw[h1,h2]at hf;cases hf;exact Vz (ht X C B E c O) (Di h O h1) (Qg (h X C B E b O))
   |some f''=>rw[h1,h2]at hf;cases hf;exact Vz (ht X C B E c O) (Di h O h1) (Di h O h2)
 ·exact Di h O hf
def QR(h:ji T ev)(O:XOk X C T E)(hf:E5 ev C e=some f):WX X G0 B (ek (kx X) E) e f:=by
 unfold E5 at hf;split at hf
 ·rename_i l op r p;cases h1:k8 ev C l with
  |none=>rw[h1]at hf;cases hf
  |some f'=>
   cases h2:Ie op with
   |none=>rw[h1,h2]at hf;cases hf
   |some q=>
    rw[h1,h2]at hf;dsimp only at hf
    by_cases hs:mi r=true
    ·rw[aJ hs]at hf;cases hf;obtain⟨rr,g1,g2,g3⟩:=B6 (X:=X) h2 O.units;exact JK g1 g2 g3 (Di h O h1) (cq h O r) (o8 hs)
    ·rw[aK hs]at hf;cases hf
 ·cases hf
end
noncomputable def E4(T:GT)(ev:Ev)(C:SC)(e:Expr):Option (En->Res):=match e with
 |.Call (.Name x _) [a] [] _=>if Ta T C x "dict" && i3 a then some (mh ev C a)else none
 |_=>none
noncomputable def Cm(T:GT)(ev tv:Ev)(C:SC)(x:Str)(e:Expr):En->Out:=match wb C x with
 |none=>vo
 | some i => (match e with
  | .Dict ks vs _ => (match ks, vs with
   |[],[]=>if C.td.contains x then Eo i else yx i
   |_,_=>vo)
  |.ListComp elt gens scope _=>iz i (oj ev tv C elt gens scope)
  | e => (match Mr T ev C e with
   |some g=>if pk e then iz i g else vo
   | none => if pk e then (match Mq ev tv C e with
    |some f=>uu i f
    | none => (match E4 T ev C e with
     |some g=>Ap i g
     |none=>bx i (ev C e)))else vo))
noncomputable def J1(ev:Ev)(C:SC)(x m:Str)(args:List Expr):En->Out:=match slot C x,args with
 |some i,[a]=>if m="append" then(if i3 a then qu i (ev C a)else vo)
  else if m="extend" then(if i3 a then yw i (mh ev C a)else vo)
  else vo
 |_,_=>vo
def fz(is:List Nat)(F:En->Out):En->Out:=λW=>F (frzs is W)
def BE(i:Nat)(W:En):Bool:=match W[i]? with
 |some (.ow _)=>true
 |_=>false
def Ao(i:Nat)(gk gv:En->Res):En->Out:=yt i gk gv
abbrev Bv:=SC->List Stmt->En->Out
noncomputable def Zd(T:GT)(ev tv:Ev)(bv:Bv)(C:SC)(st:Stmt):En->Out:=match st with
 | .Return o _ => (match o with
  |some e=>bw (ev C e)
  |none=>IU)
 | .Assign tgs e _ => (match tgs with
  |[.Name x _]=>Cm T ev tv C x e
  | [.Subscript (.Name x _) k _] => (match slot C x with
   |some i=>if xm k then(if C.td.contains x then xo i (mh ev C k) (ev C e)else yt i (mh ev C k) (ev C e))else vo
   |none=>vo)
  |_=>vo)
 | .Expr e _ => (match e with
  |.Constant (.str _) _ _=>Rp
  | .Call (.Attribute (.Name x xp) m ap) args kws cp => (match kws with
   |[]=>if ap.endLine==cp.line then(match k8 ev C (.Call (.Attribute (.Name x xp) m ap) args [] cp)with
    |some f=>Jo f
    |none=>J1 ev C x m args)else vo
   |_=>vo)
  |e=>if pk e then yu (ev C e)else vo)
 | .If c a b _ => (match E5 ev C c with
  |some f=>Jp f (bv C a) (bv C b)
  |none=>i9 (tv C c) (bv C a) (bv C b))
 | .For tg iter body els _ => (match els, Zm C tg with
  |[],some f=>if mi iter then c7 f (E6 ev C tg iter) (bv C body)else vo
  |_,_=>vo)
 |.Raise exc cause rp=>Aq T ev C (.Raise exc cause rp)
 |_=>vo
def IS(T:GT)(ev tv:Ev)(bv:Bv)(C:SC)(st:Stmt):En->Out:=fz (FH C (ZP T st)) (Zd T ev tv bv C st)
def O4(f:Stmt->En->Out):List Stmt->En->Out
 |[]=>cn
 |[s]=>f s
 |s::r=>ao (f s) (O4 f r)
def II(T:GT)(bv:Bv):Prop:=∀X C G0 B (E:XK) ss,SOk X C T E->zm X G0 B (ek (kx X) E) ss (bv C ss)
section
variable{T:GT}{ev tv:Ev}{bv:Bv}{X:Cx}{C:SC}{G0 B:Hp}{E:XK}{pos pos':Pos}
def RZ(h:ji T ev)(O:XOk X C T E)(hg:Mr T ev C e=some g):AN X B (ek (kx X) E) e g:=by
 unfold Mr at hg;split at hg
 ·rename_i es _
  by_cases hn:es.all i3=true
  ·rw[aJ hn]at hg;cases hg;exact Xw xt (x9 h O hn)
  ·rw[aK hn]at hg;cases hg
 ·rename_i x p a pos
  by_cases hb:Ta T C x "list"=true
  ·rw[aJ hb]at hg;obtain⟨rfl,hgl⟩:=Qw O hb
   by_cases hn:i3 a=true
   ·rw[aJ hn]at hg;cases hg;exact L6 O.calm hgl (O.bl _ (by decide)) (cq h O a) hn
   ·rw[aK hn]at hg;cases hg
  ·rw[aK hb]at hg;cases hg
 ·cases hg
def QV(O:XOk X C T E)(hg:E4 T ev C e=some g):∃p a q,e=.Call (.Name "dict" p) [a] [] q/\g=mh ev C a/\Gl X "dict"/\i3 a=true:=by
 unfold E4 at hg;split at hg
 ·rename_i x p a q
  by_cases hc:(Ta T C x "dict" && i3 a)=true
  ·rw[aJ hc]at hg;rw[aO]at hc;obtain⟨rfl,hg'⟩:=Qw O hc.1;cases hg;exact⟨p,a,q,rfl,rfl,hg',hc.2⟩
  ·rw[aK hc]at hg;cases hg
 ·cases hg
def IA(h:ji T ev)(ht:Fj T tv)(O:SOk X C T E):tq X G0 B (ek (kx X) E) (.Assign [.Name x pos'] e pos) (Cm T ev tv C x e):=by
 unfold Cm;cases hs:wb C x with
 |none=>exact pz
 |some i=>
  dsimp only;have gen:tq X G0 B (ek (kx X) E) (.Assign [.Name x pos'] e pos) (match Mr T ev C e with
   |some g=>if pk e then iz i g else vo
   | none => if pk e then (match Mq ev tv C e with
    |some f=>uu i f
    | none => (match E4 T ev C e with
     |some g=>Ap i g
     |none=>bx i (ev C e)))else vo):=by
   cases ho:Mr T ev C e with
   |none=>
    dsimp only
    by_cases hn:pk e=true
    ·rw[aJ hn];cases hf:Mq ev tv C e with
     |none=>
      cases hd:E4 T ev C e with
      |none=>
       have he:=h X C B E e O.toXOk;exact SS he (O.st hs he (g9 hn))
      |some g=>
       obtain⟨p,a,q,rfl,rfl,hg,na⟩:=QV O.toXOk hd;have he:=DW (X:=X) (B:=B) (E:=ek (kx X) E) (p:=p) (pos:=q) hg (O.bl _ (by decide)) (cq h O.toXOk a) na;exact FL (O.st hs he (g9 hn))
     |some f=>
      have he:AU X G0 B (ek (kx X) E) e f:=WH h ht O.toXOk hf;exact NW (O.st hs he (g9 hn))
    ·rw[aK hn];exact pz
   |some g=>
    dsimp only
    by_cases hn:pk e=true
    ·rw[aJ hn];have he:AN X B (ek (kx X) E) e g:=RZ h O.toXOk ho;exact Y4 he (O.st hs he (g9 hn))
    ·rw[aK hn];exact pz
  cases e with
  |Dict ks vs p=>
   cases ks with
   |nil=>
    cases vs with
    |nil=>
     dsimp only
     by_cases ht:C.td.contains x=true
     ·rw[aJ ht];exact FM (O.st hs X3 (g9 rfl))
     ·rw[aK ht];exact NX (O.st hs L8 (g9 rfl))
    |cons _ _=>exact pz
   |cons _ _=>exact pz
  |ListComp elt gens scope lp=>
   have hw:=C5 (X:=X) (B:=B) (E:=E) (pos:=lp) (elt:=elt) (gens:=gens) (scope:=scope) h ht O.toXOk;have sw:∃b,gO (.ListComp elt gens scope lp) (some (.Name x pos')) pos.line X.env=pure b:=⟨_,rfl⟩;obtain⟨b,sw⟩:=sw;cases b with
   |false=>exact Y4 hw.1 (O.st hs hw.1 sw)
   |true=>
    show tq X G0 B _ _ (iz i (oj ev tv C elt gens scope));obtain⟨l1,l2,l3⟩:=D4 hs;have hy:X.N[i]?=some x:=by rw[O.n];exact l1
    have hl:L2.GB X.env.scope x:=by rw[O.s];exact Dp l2
    have hN:X.N.Nodup:=by rw[O.n];exact O.nd
    clear hw;cases HQ (B:=B) (elt:=elt) (gens:=gens) (scope:=scope) h ht O.toXOk with
    |st e=>rw[e];exact λpins s U H D I ⟨G,W,R,ex,q⟩=>q.elim
    |ok eg eG st hF hi hs=>
     rw[eG];subst eg;intro pins s U H D I q;obtain⟨cl,O2,Bk⟩:=st I.ok;exact NY O2 O.calm Bk hF hi hN hy hl (O.fn x l3) hs sw pins s U H D I q
  |_=>exact gen
def Qj(hn:i3 a=true):((fG cpos (bF [a] env)).all (λx=> !x.1) && (oE cpos (lD [] env)).all (λx=>x.1.isSome)
   && decide (([a]:List Expr).length+([]:List iZ).length+(if([]:List iZ).isEmpty then 0 else 1)<30))=true:=by
 rw[uw (by rw[cP,hn];rfl)];rfl
def QJ(h:ji T ev)(O:SOk X C T E){p ap cp:Pos}(hl:(ap.endLine==cp.line)=true):tq X G0 B (ek (kx X) E) (.Expr (.Call (.Attribute (.Name x p) m ap) args [] cp) pos) (J1 ev C x m args):=by
 unfold J1;split
 ·rename_i i a hs
  by_cases hm:m="append"
  ·subst hm;rw[aJ rfl]
   by_cases hn:i3 a=true
   ·rw[aJ hn];exact Y2 (O.var hs) (h X C B E a O.toXOk) rfl (Qj hn) hl (a5 hn) rfl rfl
   ·rw[aK hn];exact pz
  ·rw[aK hm]
   by_cases hm:m="extend"
   ·subst hm;rw[aJ rfl]
    by_cases hn:i3 a=true
    ·rw[aJ hn];exact Y3 (O.var hs) (cq h O.toXOk a) rfl (Qj hn) hl (a5 hn) rfl rfl
    ·rw[aK hn];exact pz
   ·rw[aK hm];exact pz
 ·exact pz
def RA(h:ji T ev)(ht:Fj T tv)(hb:II T bv)(O:SOk X C T E){st:Stmt}:tq X G0 B (ek (kx X) E) st (Zd T ev tv bv C st):=by
 have hu:X.A.units+5<eD:=by have:=O.units;lia
 cases st with
 |Return o p=>
  cases o with
  |none=>exact NZ
  |some e=>exact SU (h X C B E e O.toXOk)
 |Assign tgs e p=>
  show tq X G0 B _ _ (match tgs with
   |[.Name x _]=>Cm T ev tv C x e
   | [.Subscript (.Name x _) k _] => (match slot C x with
    |some i=>if xm k then(if C.td.contains x then xo i (mh ev C k) (ev C e)else yt i (mh ev C k) (ev C e))else vo
    |none=>vo)
   |_=>vo)
  split
  ·exact IA h ht O
  ·rename_i x _ k _;cases hs:slot C x with
   |none=>exact pz
   |some i=>
    dsimp only
    by_cases hp:xm k=true
    ·rw[aJ hp]
     by_cases htd:C.td.contains x=true
     ·rw[aJ htd];exact FP hu (O.var hs) (cq h O.toXOk k) (h X C B E e O.toXOk) Hn
     rw[aK htd];exact MB hu (O.var hs) (cq h O.toXOk k) (h X C B E e O.toXOk) Hn
    ·rw[aK hp];exact pz
  ·exact pz
 |Expr e p=>
  show tq X G0 B _ _ (match e with
   |.Constant (.str _) _ _=>Rp
   | .Call (.Attribute (.Name x xp) m ap) args kws cp => (match kws with
    |[]=>if ap.endLine==cp.line then(match k8 ev C (.Call (.Attribute (.Name x xp) m ap) args [] cp)with
     |some f=>Jo f
     |none=>J1 ev C x m args)else vo
    |_=>vo)
   |e=>if pk e then yu (ev C e)else vo)
  split
  ·exact SY
  ·rename_i x _ m ap args kws cp;cases kws with
   |nil=>
    dsimp only
    by_cases hl:(ap.endLine==cp.line)=true
    ·rw[aJ hl];cases hf:k8 ev C _ with
     |none=>exact QJ h O hl
     |some f=>exact FO (Di h O.toXOk hf) rfl
    ·rw[aK hl];exact pz
   |cons _ _=>exact pz
  ·by_cases hn:pk e=true
   ·rw[aJ hn];exact MA (h X C B E e O.toXOk) (g9 hn)
   ·rw[aK hn];exact pz
 |If c a b p=>
  show tq X G0 B _ _ (match E5 ev C c with
   |some f=>Jp f (bv C a) (bv C b)
   |none=>i9 (tv C c) (bv C a) (bv C b))
  cases hf:E5 ev C c with
  |none=>exact XN (ht X C B E c O.toXOk) (hb X C G0 B E a O) (hb X C G0 B E b O)
  |some f=>exact SV (QR h O.toXOk hf) (hb X C G0 B E a O) (hb X C G0 B E b O)
 |For tg iter body els p=>
  show tq X G0 B _ _ (match els,Zm C tg with
   |[],some f=>if mi iter then c7 f (E6 ev C tg iter) (bv C body)else vo
   |_,_=>vo)
  cases els with
  |cons _ _=>exact pz
  |nil=>
   cases hf:Zm C tg with
   |none=>exact pz
   |some f=>
    dsimp only
    by_cases hn:mi iter=true
    ·rw[aJ hn];obtain⟨gl,G⟩:=GW (B:=B) O hf;exact SX O.pass O.calm (HJ h O.toXOk iter) G (hb X C G0 B E body O) (rq hn)
    ·rw[aK hn];exact pz
 |Raise exc cause p=>exact Yx h O.toXOk
 |_=>exact pz
def Ze(h:ji T ev)(ht:Fj T tv)(hb:II T bv)(O:SOk X C T E){st:Stmt}:tq X G0 B (ek (kx X) E) st (IS T ev tv bv C st):=SW _ (RA h ht hb O)
theorem Y7{E:EK}(h:∀st,tq X G0 B E st (f st)):∀{ss:List Stmt},zm X G0 B E ss (O4 f ss)
 |[]=>NP
 |[s]=>NO (h s)
 |s::t::r=>FD (h s) (Y7 h (ss:=t::r))
end
def Qf:Nat:=40
def gB(T:GT):Nat->Bv
 |0=>λ_ _=>vo
 |n+1=>λC ss=>O4 (IS T (gP T Qf false) (gP T Qf true) (gB T n) C) ss
def SQ:zm X G0 B E ss vo:=λpins s U H D I ⟨G,W,R,x,q⟩=>q.elim
theorem Wc(T:GT):∀n,II T (gB T n)
 |0=>λX C G0 B E ss O=>SQ
 |n+1=>λX C G0 B E ss O=>Y7 λst=>Ze (Gm T Qf).1 (Gm T Qf).2 (Wc T n) O
structure TabIs(P:bQ)(w:cF)(K:bA)(mg:Str->Option aH)(base:Heap)(T:GT)(k:Nat):Prop where
 fns:∀x s,T.fns x=some s->∃f fd ps,mg x=some (.ref f)/\dI K (.ref f)=true/\Binds K fd ps []/\FnOk P w K mg base (F0 P w) k f fd ps (Pb ⟨K,Fh mg⟩ s.ms s.f)
 gstr:∀x y,T.gstr x=some y->∃t,mg x=some (.str y t)
 bl:∀x∈wo,mg x=none
 exc:∀x,T.xs.exc x=true->∃C bm newId,mg x=some (.ref C)/\gK K C bm newId=true/\ExBase bm newId
 sub:∀c y,T.xs.sub c y=true->∃Cy,mg y=some (.ref Cy)/\eW K (.ref (Fh mg c)) (.ref Cy)=some true
 ve:∀c,T.xs.ve c=true->PySem.W.kitCls K (.ref (Fh mg c)) (.type "ValueError")=some true
 nsub:∀c y,T.xs.nsub c y=true->∃Cy,mg y=some (.ref Cy)/\eW K (.ref (Fh mg c)) (.ref Cy)=some false
 lams:∀e fs ds d,T.lam e fs ds=.ok d->U6 P w K mg base k e fs ds d
 own:∀x s,T.own x=true->T.fns x=some s->∃f fd ps,mg x=some (.ref f)/\dI K (.ref f)=true/\Binds K fd ps []/\FnOk P w K mg base (F0 P w) k f fd ps (SR ⟨K,Fh mg⟩ s.ms s.f)
def Room.u65{A:cS}(r:Room k A):A.units+65<eD:=by have:=r.un;lia
def TabIs.xok{X:Cx}{C:SC}(t:TabIs X.prog X.w X.K X.mg X.base T k)(hr:Room k X.A)(n:X.N=C.N)(s:X.env.scope=C.sc)(nd:C.N.Nodup)(calm:X.calm=true)(goes:pj (F0 X.prog X.w) X E)(lamc:C.lam=true->U5 X):XOk X C T E:=
 ⟨n,s,nd,calm,Room.u65 hr,λx s h=>by
  obtain⟨f,fd,ps,h1,h2,h3,h4⟩:=t.fns x s h;exact⟨k,f,fd,ps,hr,h1,h2,h3,h4⟩,t.gstr,t.bl,t.exc,t.sub,t.ve,t.nsub,goes,lamc,λe fs ds d h=>⟨k,hr,t.lams e fs ds d h⟩,λx s h h'=>by
  obtain⟨f,fd,ps,h1,h2,h3,h4⟩:=t.own x s h h';exact⟨k,f,fd,ps,hr,h1,h2,h3,h4⟩⟩
structure DefR where
 x:Str
 st:Stmt
 ms:List Bool
 lm:Bool
def B5(st:Stmt):List Str:=(ju st).args.map (·.arg)
noncomputable def D0(ps:List Str):List (Str×iP)->List Str
 |[]=>[]
 |(n,k)::r=>if(k=.local\/k=.cell)/\n∉ps then n::D0 ps r else D0 ps r
def HF(st:Stmt):List Str:=B5 st++D0 (B5 st) (br st).names
def OR(st:Stmt)(lm:Bool):SC:=⟨HF st,br st,Pk 20 (f9 st),lm⟩
noncomputable def Ea(d:DefR):Bool:=
 decide ((br d.st).kind=.function) && decide ((br d.st).isCoroutine=false) && decide ((br d.st).isGenerator=false) && decide ((HF d.st).Nodup) && decide ((HF d.st).take (B5 d.st).length=B5 d.st) &&
 ((B5 d.st).all λx=>decide ((br d.st).names.lookup x=some .local)||decide ((br d.st).names.lookup x=some .cell)) && ((br d.st).names.all λy=>decide (y.2≠.free)) && decide (d.ms.length=(B5 d.st).length)
def Bf{d:DefR}(h:Ea d=true):FnScope (HF d.st) (B5 d.st) (br d.st)/\d.ms.length=(B5 d.st).length:=by
 unfold Ea at h;simp only[aO,decide_eq_true_eq]at h;obtain⟨⟨⟨⟨⟨⟨⟨h1,h2⟩,h3⟩,h4⟩,h5⟩,h6⟩,h7⟩,h8⟩:=h;refine⟨⟨h1,h2,h3,h4,h5,λx hx=>?_,λy hy=>?_⟩,h8⟩
 ·have q:=List.all_eq_true.mp h6 x hx;rw[fY,decide_eq_true_eq,decide_eq_true_eq]at q;exact q
 ·exact of_decide_eq_true (List.all_eq_true.mp h7 y hy)
def Hu(st:Stmt)(x:Str):Prop:=∀(kV doc pm:aH)(an:Option Addr)(cdv ct:aH)(us:List aH),us.length=(B5 st).length->bindArgs (eY x x (ju st) (f9 st) (br st) .none kV doc pm an cdv ct) ⟨us,[]⟩=pure ((B5 st).zip us)
structure DefIn(K:bA)(mg:Str->Option aH)(d:DefR):Prop where
 ok:Ea d=true
 bd:Hu d.st d.x
 at_:∃f fd,mg d.x=some (.ref f)/\Fun K d.x d.x d.st f fd/\(d.lm=true->∃c P,fd.code=.ref c/\(c,P,d.x++".<locals>."++"<lambda>")∈Ph/\oO K c P=true)
def JP{K:bA}{h:Heap}{mg:Str->Option aH}{d:DefR}(X:K.In h)(G:h.Ns cY mg)(ok:Ea d=true)(bd:Hu d.st d.x){f:Addr}{oc kV doc pm cdv ct:aH}{od an:Option Addr}{osl:Array (Option aH)}
  (a:iF K cY d.x=some (some (.ref f)))(l:K.lookup f=some ⟨oc,od,.func (eY d.x d.x (ju d.st) (f9 d.st) (br d.st) .none kV doc pm an cdv ct),osl⟩)(c:iQ K cdv d.x=true)(k:dI K (.ref f)=true)(m:d.lm=true->∃c P,cdv=.ref c/\(c,P,d.x++".<locals>."++"<lambda>")∈Ph/\oO K c P=true):DefIn K mg d:=
 ⟨ok,bd,f,_,cV X G a,Wb l c k,m⟩
def look(ds:List DefR)(x:Str):Option DefR:=match ds with
 |[]=>none
 |d::r=>if d.x=x then some d else look r x
theorem Ll{d:DefR}:∀{ds:List DefR},look ds x=some d->d∈ds/\d.x=x
 |[],h=>by cases h
 |e::r,h=>by
  unfold look at h
  by_cases z:e.x=x
  ·rw[aJ z]at h;cases h;exact⟨aI,z⟩
  ·rw[aK z]at h;obtain⟨q1,q2⟩:=Ll h;exact⟨aE _ q1,q2⟩
def Vd:Nat:=20
def af(T:GT)(d:DefR):List D->Res:=WG d.ms (HF d.st).length (gB T Vd (OR d.st d.lm) (f9 d.st))
noncomputable def tm(ds:List DefR)(gs:Str->Option Str)(xs:XT):Nat->GT
 |0=>⟨λ_=>none,gs,xs,λ_ _ _=>.st,λ_=>false⟩
 |n+1=>⟨λx=>match look ds x with
  |some d=>some ⟨d.ms,af (tm ds gs xs n) d⟩
  |none=>none,gs,xs,λ_ _ _=>.st,λ_=>false⟩
structure XsIn(K:bA)(mg:Str->Option aH)(xs:XT):Prop where
 exc:∀x,xs.exc x=true->∃C bm newId,mg x=some (.ref C)/\gK K C bm newId=true/\ExBase bm newId
 sub:∀c y,xs.sub c y=true->∃Cy,mg y=some (.ref Cy)/\eW K (.ref (Fh mg c)) (.ref Cy)=some true
 ve:∀c,xs.ve c=true->PySem.W.kitCls K (.ref (Fh mg c)) (.type "ValueError")=some true
 nsub:∀c y,xs.nsub c y=true->∃Cy,mg y=some (.ref Cy)/\eW K (.ref (Fh mg c)) (.ref Cy)=some false
section
variable{P:bQ}{w:cF}{K:bA}{mg:Str->Option aH}{base:Heap}{ds:List DefR}{gs:Str->Option Str}{xs:XT}
def Zj{d:DefR}(n:Nat)(h:look ds x=some d):(tm ds gs xs (n+1)).fns x=some ⟨d.ms,af (tm ds gs xs n) d⟩:=by
 show(match look ds x with
  |some d=>some (FS.mk d.ms (af (tm ds gs xs n) d))
  |none=>none)=_
 rw[h]
def Bm(mg:Str->Option aH)(base:Heap):Prop:=∃bm o,mg "__builtins__"=some (.ref bm)/\bm≠lZ/\bm≠cY/\base.get? bm=some o/\o.cls=.type "module"/\o.dict=some lZ/\o.data=.plain
theorem rk{lo:Nat}:∀(names:List (Str×iP))(n:Nat)(acc:List (Str×Addr)),lo<=n->(∀p∈acc,lo<=p.2)->∀p∈pP n names acc,lo<=p.2
 |[],_,acc,_,h,p,hp=>h p hp
 |(nm,kd)::r,n,acc,hl,h,p,hp=>by
  unfold pP at hp;split at hp
  ·refine rk r (n+1) _ (Nat.le_succ_of_le hl) (λq hq=>?_) p hp;rcases List.mem_cons.mp hq with rfl|hq
   ·exact hl
   ·exact h q hq
  ·exact rk r n _ hl h p hp
def Q0{d:DefR}{fd:jG}(kb:K.In base)(bm:Bm mg base)(hc:fd.code=cdv)(hl:d.lm=true->∃c P,fd.code=.ref c/\(c,P,d.x++".<locals>."++"<lambda>")∈Ph/\oO K c P=true):
  (OR d.st d.lm).lam=true->U5 (Bx (F0 P w) P w K mg base N d.x (br d.st) f cdv A outer s H E):=λz=>by
 obtain⟨c,Pl,h1,h2,h3⟩:=hl z;refine⟨c,Pl,h2,hc.symm.trans h1,PySem.W.codeHd_of_K kb h3,bm,λy c hy=>?_,λy hy=>decide_eq_false λz=>z hy⟩;exact rk _ _ _ (mH _) (λp hp=>by simp at hp) _ (gA hy)
theorem Zk(kb:K.In base)(bm:Bm mg base)(hd:∀d∈ds,DefIn K mg d)(hs:∀x y,gs x=some y->∃t,mg x=some (.str y t))(hb:∀x∈wo,mg x=none)(hX:XsIn K mg xs):∀n,TabIs P w K mg base (tm ds gs xs n) n
 |0=>⟨λx s h=>(by cases h),hs,hb,hX.exc,hX.sub,hX.ve,hX.nsub,λe fs ds d h=>(by cases h),λx s h=>(by cases h)⟩
 |n+1=>by
  have ih:=Zk kb bm hd hs hb hX n;refine⟨λx s h=>?_,hs,hb,hX.exc,hX.sub,hX.ve,hX.nsub,λe fs ds' d h=>(by cases h),λx s h h'=>(by cases h)⟩;unfold tm at h;dsimp only at h;cases e:look ds x with
  |none=>rw[e]at h;cases h
  |some d=>
   rw[e]at h;cases h;obtain⟨m1,m2⟩:=Ll e;subst m2;obtain⟨ok,bd,f,fd,q1,F,hl⟩:=hd d m1;obtain⟨S,hm⟩:=Bf ok;refine⟨f,fd,B5 d.st,q1,F.kp,F.binds bd,Wa F S hm λcdv A outer s H G0 E hc hr=>?_⟩;exact Wc _ _ _ (OR d.st d.lm) G0 H E _ ⟨TabIs.xok (X:=Bx (F0 P w) P w K mg base (HF d.st) d.x (br d.st) f cdv A outer s H E) ih hr rfl rfl S.nd rfl He (Q0 kb bm hc hl),λy hy=>decide_eq_true hy,PassesOwn.leaving,rfl,rfl,rfl⟩
def Rv(K:bA):Sp:=λvs H Q _=>GOk H/\∃(a:Addr) (ns:List Int),vs=[.ref a]/\SqL K H a (ns.map V.int)/\ns.length<=63/\∀H',Q (.bl true) H'
theorem Ge{K:KA}{G:Hp}:∀ns:List Int,DenL K G (ns.map D.int) (ns.map V.int)
 |[]=>rfl
 |n::ns=>⟨.int n,ns.map V.int,rfl,rfl,Ge ns⟩
def KN{d:DefR}{f:Addr}{oc kV doc pm cdv ct:aH}{od an:Option Addr}{osl:Array (Option aH)}(ok:Ea d=true)(nl:d.lm=false)
  (a:iF K cY d.x=some (some (.ref f)))(l:K.lookup f=some ⟨oc,od,.func (eY d.x d.x (ju d.st) (f9 d.st) (br d.st) .none kV doc pm an cdv ct),osl⟩)(c:iQ K cdv d.x=true)(k:dI K (.ref f)=true)
  (kb:K.In base) (bm:Bm mg base) (hd:∀d∈ds,DefIn K mg d) (hs:∀x y,gs x=some y->∃t,mg x=some (.str y t)) (hb:∀x∈wo,mg x=none) (hX:XsIn K mg xs) {n:Nat} {s:FS} (hl:(tm ds gs xs n).fns "law"=some s) (hm:s.ms=[false])
  (law:∀ns:List Int,ns.length<=63->s.f [.lst (ns.map D.int)]=.ok (.bl true)) (hx:look ds "law"=some d:=by rfl) (hp:B5 d.st=[("_law_script":Str)]:=by rfl):
  FnOk P w K mg base OA n f (eY d.x d.x (ju d.st) (f9 d.st) (br d.st) .none kV doc pm an cdv ct) ["_law_script"] (Rv K):=by
 cases n with
 |zero=>cases hl
 |succ n=>
  unfold tm at hl;dsimp only at hl;rw[hx]at hl;cases hl;obtain⟨S,hm'⟩:=Bf ok;have F:=Wa (P:=P) (w:=w) (base:=base) (mg:=mg) (k:=n) (ms:=d.ms) (Fb:=gB (tm ds gs xs n) Vd (OR d.st d.lm) (f9 d.st)) (Wb l c k) S hm' λcdv' A outer s H G0 E hc hr=>by
   exact Wc _ _ _ (OR d.st d.lm) G0 H E _ ⟨TabIs.xok (X:=Bx (F0 P w) P w K mg base (HF d.st) d.x (br d.st) f cdv' A outer s H E) (Zk kb bm hd hs hb hX n) hr rfl rfl S.nd rfl He (Q0 kb bm hc λz=>by rw[nl]at z;cases z),λy hy=>decide_eq_true hy,PassesOwn.leaving,rfl,rfl,rfl⟩
  rw[hp]at F;refine F.calm.imp λvs H Q E ⟨gb,a,ns,e,sq,hn,q⟩=>?_;subst e;have hm:d.ms=[false]:=hm;have e:af (tm ds gs xs n) d [.lst (ns.map D.int)]=.ok (.bl true):=law ns hn;show Pb _ d.ms (af (tm ds gs xs n) d) _ H Q E0;refine⟨by rw[hm];rfl,gb,H,[.lst (ns.map D.int)],Same.refl H,by rw[hm];exact⟨_,[],_,[],rfl,rfl,⟨a,_,rfl,sq,Ge ns⟩,rfl,rfl⟩,?_⟩;rw[e];intro v G' H' _ dn;rw[show v=.bl true from dn];exact q H'
end
def Bo(b:Addr):Option HO:=(Ph.find? λp=>p.2.1==b).map λp=>.tbl p.2.2
def E8(h:Bo b=some o):∃p∈Ph,p.2.1=b/\o=.tbl p.2.2:=by
 unfold Bo at h;cases e:Ph.find? λp=>p.2.1==b with
 |none=>rw[e]at h;cases h
 |some p=>
  rw[e]at h;cases h;exact⟨p,List.mem_of_find?_eq_some e,by simpa using List.find?_some e,rfl⟩
theorem Qm{f:α->Addr}:∀{l:List α}{p:α},(l.map f).Nodup->p∈l->l.find? (λq=>f q==f p)=some p
 |[],_,_,h=>by simp at h
 |a::r,p,nd,h=>by
  rw[aG,List.nodup_cons]at nd;rw[gY]
  by_cases e:f a=f p
  ·have hb:(f a==f p)=true:=by simpa using e
   rw[hb];rcases List.mem_cons.mp h with rfl|h
   ·rfl
   ·exact absurd (e▸List.mem_map_of_mem h) nd.1
  ·have hb:(f a==f p)=false:=by simpa using e
   rw[hb];rcases List.mem_cons.mp h with rfl|h
   ·exact absurd rfl e
   ·exact Qm nd.2 h
def Uk(nd:(Ph.map (·.2.1)).Nodup){p:Addr×Addr×Str}(hp:p∈Ph):Bo p.2.1=some (.tbl p.2.2):=by
 unfold Bo;rw[Qm (f:=λp:Addr×Addr×Str=>p.2.1) nd hp];rfl
def U7(h:Heap):Prop:=∀p∈Ph,PySem.W.CodeHd h p.1 p.2.1/\h.get? p.2.1=some (nG #[])
def Ti{P:bQ}{w:cF}{K:bA}{mg mb:Str->Option aH}{k:Nat}{fa a:Addr}{fd:jG}{x:Str}{s₁:aN}{vs:List aH}{ns:List Int}
  (KX:K.In s₁.heap)(nK:PySem.W.noTabs K=true)(nd:(Ph.map (·.2.1)).Nodup)(tb:U7 s₁.heap)(bm:Bm mg s₁.heap)(hns:s₁.heap.Ns cY mg)(hb:s₁.heap.Ns lZ mb)(hbb:∀x:Str,x≠"__name__"->mb x=gE x)(hlim:s₁.heap.NoLimit)(hg:s₁.gens=#[])
  (ha:s₁.heap.get? a=some {cls:=.type "list",data:=.seq vs.toArray}) (hi:IntsAre vs ns) (hl:ns.length<=aM) (hl2:ns.length<=63) (hr:Room k pR)
  (F:∀base:Heap,K.In base->base.Ns cY mg->Bm mg base->FnOk P w K mg base OA k fa fd [x] (Rv K)) (hbind:∀(s:aN)(u:aH),BindsTo s fd ⟨[u],[]⟩ [(x,u)]):
  hU (bI P w) pR (.call (.ref fa) ⟨[.ref a],[]⟩) (λr s'=>r=.ok (.ret (.bool true))/\OldK s₁.heap s'.heap/\s'.os=s₁.os/\mS s'.gens) s₁:=by
 have rv:=Hr hi;have lenV:=hi.length;have tne:∀{b:Addr}{u:HO},Bo b=some u->s₁.heap.get? b=some (nG #[]):=λ{b u} e=>by
  obtain⟨p,hp,rfl,_⟩:=E8 e;exact(tb p hp).2
 have core:∀S:Option HO,(S=none\/S=some (.frz {cls:=.type "list",data:=.seq vs.toArray} (.lst (ns.map V.int))))->(S≠none->K.lookup a=none)->SqL K (λb=>if b=a then S else Bo b) a (ns.map V.int)->
   hU (bI P w) pR (.call (.ref fa) ⟨[.ref a],[]⟩) (λr s'=>r=.ok (.ret (.bool true))/\OldK s₁.heap s'.heap/\s'.os=s₁.os/\mS s'.gens) s₁:=by
  intro S hS hSK sq;generalize hH:(λb=>if b=a then S else Bo b)=H at sq;have Ha:H a=S:=by rw[<-hH];exact aJ rfl
  have Hb:∀b,b≠a->H b=Bo b:=λb hb=>by rw[<-hH];exact aK hb
  have kind:∀{b:Addr}{u:HO},H b=some u->(b=a/\u=.frz {cls:=.type "list",data:=.seq vs.toArray} (.lst (ns.map V.int))/\K.lookup a=none)\/∃p∈Ph,p.2.1=b/\u=.tbl p.2.2:=λ{b u} e=>by
   by_cases z:b=a
   ·rw[z,Ha]at e;rcases hS with y|y
    ·rw[y]at e;cases e
    ·rw[y]at e;cases e;exact .inl ⟨z,rfl,hSK (by rw[y];simp)⟩
   ·rw[Hb b z]at e;exact .inr (E8 e)
  have hok:HOk P w H s₁.heap:=λb u e=>by
   rcases kind e with ⟨rfl,rfl,_⟩|⟨p,hp,rfl,rfl⟩
   ·exact⟨ha,by rw[aF];exact hl,vs,_,rv,ha⟩
   ·exact⟨#[],(tb p hp).2,trivial⟩
  have base_of:∀{b:Addr}{o:Obj},s₁.heap.get? b=some o->H b=none->(Fv s₁.heap H).get? b=some o:=λe n=>Wi e n;have free:∀{b:Addr}{o:Obj},s₁.heap.get? b=some o->(∀n,o.data≠.seq vs.toArray n)->o≠nG #[]->H b=none:=λ{b o} e h1 h2=>by
   cases q:H b with
   |none=>rfl
   |some u=>
    rcases kind q with ⟨rfl,_⟩|⟨p,hp,rfl,_⟩
    ·rw[ha]at e;cases e;exact absurd rfl (h1 _)
    ·rw[(tb p hp).2]at e;cases e;exact absurd rfl h2
  have nsK:∀{b:Addr}{m:Str->Option aH},s₁.heap.Ns b m->(Fv s₁.heap H).Ns b m:=λ{b m} ⟨o,es,ep,e,d,r⟩=>⟨o,es,ep,base_of e (free e (λn z=>by rw[d]at z;cases z) λz=>by rw[z]at d;cases d),d,r⟩;have hKb:K.In (Fv s₁.heap H):=λb o e=>base_of (KX b o e) (by
   cases q:H b with
   |none=>rfl
   |some u=>
    rcases kind q with ⟨rfl,_,z⟩|⟨p,hp,rfl,_⟩
    ·rw[z]at e;cases e
    ·have e2:=KX _ _ e;rw[(tb p hp).2]at e2;have h2:=List.all_eq_true.mp nK _ (PySem.W.mem_of_lookupK e);cases e2;exact absurd (show false=true from h2) Bool.false_ne_true)
  have bmK:Bm mg (Fv s₁.heap H):=by
   obtain⟨m,o,b1,b2,b3,b4,b5,b6,b7⟩:=bm;exact⟨m,o,b1,b2,b3,base_of b4 (free b4 (λn z=>by rw[b7]at z;cases z) λz=>by rw[z]at b5;cases b5),b5,b6,b7⟩
  have hM:Mod K mg (Fv s₁.heap H):=⟨hKb,nsK hns,⟨mb,nsK hb,hbb⟩,let ⟨mc,h1,h2⟩:=hlim;⟨mc,nsK h1,h2⟩⟩;have e0:Env0 P w K mg (Fv s₁.heap H) pR [] s₁ H:=⟨rfl,hM,λb o e=>DV e,jD (S8 _ _),trivial,λb hb=>absurd (show b∈([]:List Addr)from hb) (by simp),hok,.of_eq hg⟩;have gb:GOk H:=λp hp=>by
   have:p.2.1≠a:=λz=>by
    have:=(tb p hp).2;rw[z,ha]at this;cases this
   rw[Hb _ this];exact Uk nd hp
  refine kJ ((F _ hKb (nsK hns) bmK).run pR [] s₁ H ⟨[.ref a],[]⟩ [.ref a] [.ref a] (λv _=>v=.bl true) E0 hr e0 (hbind s₁ (.ref a)) (.cons rfl .nil) ⟨gb,a,ns,rfl,sq,hl2,λ_=>rfl⟩) λr s' h=>?_;cases r with
  |error e=>exact iY h
  |ok fl=>
   cases fl with
   |next=>exact iY h
   |brk=>exact iY h
   |cont=>exact iY h
   |ret u=>
    obtain⟨v,H',os,bare,un,hok',r',q⟩:=h;have q':v=.bl true:=q;subst q';obtain rfl:u=lY true:=r';have keep:∀b o,s₁.heap.get? b=some o->(s'.heap.get? b=some o)\/∃p∈Ph,p.2.1=b/\∃ps,s'.heap.get? b=some (nG ps):=λb o e=>by
     cases q:H b with
     |none=>exact .inl (un.keep b o e q (by intro z;exact absurd (show b∈([]:List Addr)from z) (by simp)) (by simp))
     |some u=>
      rcases kind q with ⟨rfl,rfl,_⟩|⟨p,hp,rfl,rfl⟩
      ·obtain⟨e1,_⟩:=hok b _ q;obtain⟨e2,_⟩:=hok' b _ (un.frzs b _ _ q);rw[e]at e1;cases e1;exact .inl e2
      ·obtain⟨ps,e2,_⟩:=hok' _ _ (un.tbls _ _ q);exact .inr ⟨p,hp,rfl,ps,e2⟩
    refine⟨rfl,⟨λb o e=>?_,λb o e=>?_⟩,os,bare⟩
    ·rcases keep b o e with z|⟨p,hp,rfl,ps,z⟩
     ·exact .inl z
     ·obtain⟨c1,c2⟩:=tb p hp;rw[c2]at e;cases e;exact .inr (.inl ⟨(c1.tab c2).isCodeTable,rfl,#[],ps,rfl,by rw[Array.empty_append];exact z⟩)
    ·rcases keep b o e with z|⟨p,hp,rfl,ps,z⟩
     ·exact⟨_,z⟩
     ·exact⟨_,z⟩
 cases hk:K.lookup a with
 |some o=>
  have e:=KX a o hk;rw[ha]at e;cases e;exact core none (.inl rfl) (λz=>absurd rfl z) (.inr ⟨_,vs.toArray,_,hk,rfl,rfl,rfl,by rw[bL,lenV];exact hl,by simpa using rv⟩)
 |none=>exact core _ (.inr rfl) (λ_=>hk) (.inl (.inr ⟨{cls:=.type "list",data:=.seq vs.toArray},aJ rfl⟩))
def TK{l:PySem.W.OpenLaw}{d:DefRec}{K:Params->bA}(hn:l.most=some 63)(hdf:d.params.defaults=[])(hr:Room k pR)(nd:(Ph.map (·.2.1)).Nodup)
  (hY:∀(w:cF)(h:Heap),YP w h->(K w.params).In h)(nK:∀w:cF,PySem.W.noTabs (K w.params)=true)
  (tb:∀(w:cF)(h:Heap),YP w h->U7 h)
  (F:∀(w:cF)(mg:Str->Option aH)(fa:Addr)(h:Heap),(K w.params).In h->h.Ns cY mg->mg d.name=some (.ref fa)->
   ∃fd:jG,(∀(s:aN)(u:aH),BindsTo s fd ⟨[u],[]⟩ [("_law_script",u)])/\∀base:Heap,(K w.params).In base->base.Ns cY mg->Bm mg base->FnOk l.prog w (K w.params) mg base OA k fa fd ["_law_script"] (Rv (K w.params))):
  PySem.W.WalkO q loose XP YP l.row.toRowW d [] (λf vs=>PySem.call f vs):=by
 refine Att.Kc hn hdf λw s₀ s₁ mg mb fa o pm cd doc a vs ns G Y ho hd hcd hmg hobj hints hlen hg=>?_;have KX:=hY w _ Y;obtain⟨fd,hb,hF⟩:=F w mg fa _ KX G.T.g hmg;obtain⟨bm,ob,b1,b2,b3,b4,b5,b6⟩:=G.T.bmain;have bG:bm≠cY:=λz=>by
  obtain⟨o,es,ep,e,hd,_⟩:=G.T.g;rw[z,e]at b3;cases b3;rw[hd]at b6;cases b6
 exact Ti KX (nK w) nd (tb w _ Y) ⟨bm,ob,b1,b2,bG,b3,b4,b5,b6⟩ G.T.g G.T.b G.T.builtins G.T.nolimit hg hobj hints (cM hlen (by decide)) hlen hr hF hb
end Pu
end
section
namespace LK
open PySem PySem.Spec PyProof.Rows L2 Pu
def tu(i:Nat):Stmt:=PySem.Challenge.pw_askbook_k05_whole_every_book.main.body.getD i (.Pass ⟨0,0,0,0⟩)
def jj:DefR:=⟨"put_in",tu 5,[true,true],false⟩
def ck:DefR:=⟨"put_further",tu 6,[true,true,true],false⟩
def oz:DefR:=⟨"is_number",tu 9,[true],false⟩
def mw:DefR:=⟨"is_word",tu 10,[true],false⟩
def p9:DefR:=⟨"is_term",tu 11,[true],false⟩
def fh:DefR:=⟨"is_tuple_of",tu 12,[true,true,true,true],false⟩
def jc:DefR:=⟨"is_pair",tu 13,[true],false⟩
def u9:DefR:=⟨"is_atom",tu 14,[true],false⟩
def gq:DefR:=⟨"are_of_one_length",tu 15,[true],false⟩
def di:DefR:=⟨"stand_ins",tu 16,[true],false⟩
def c9:DefR:=⟨"terms_of",tu 17,[true],false⟩
def j7:DefR:=⟨"are_standing",tu 18,[true,true],false⟩
def cf:DefR:=⟨"checked_asking",tu 19,[false],false⟩
def dh:DefR:=⟨"found_way",tu 21,[true,true,false],false⟩
def qc:DefR:=⟨"way_put",tu 22,[true,true],false⟩
def fe:DefR:=⟨"numbers_of",tu 23,[true],false⟩
def cb:DefR:=⟨"numbers_for_stand_ins",tu 24,[true,true],false⟩
def gu:DefR:=⟨"book_against",tu 25,[true,true],false⟩
def ic:DefR:=⟨"within",tu 26,[false,false],false⟩
def u0:DefR:=⟨"alike",tu 27,[false,false],false⟩
def lh:DefR:=⟨"_law_cell_at",tu 29,[true,true],false⟩
def az:DefR:=⟨"_law_mixed",tu 30,[true,true,true],false⟩
def ni:DefR:=⟨"_law_term",tu 31,[true,true],false⟩
def i4:DefR:=⟨"_law_atom",tu 32,[true,true],false⟩
def f7:DefR:=⟨"_law_asking",tu 33,[true,true,true],false⟩
def cy:DefR:=⟨"_law_stand_ins",tu 34,[true],false⟩
def ly:DefR:=⟨"_law_other",tu 35,[true,true],false⟩
def my:DefR:=⟨"_law_fit",tu 36,[true,true,true],false⟩
def nh:DefR:=⟨"_law_fits",tu 37,[true,true],false⟩
def qa:DefR:=⟨"_law_put",tu 38,[true,true],false⟩
def gm:DefR:=⟨"_law_answers",tu 39,[true,true],false⟩
def nc:DefR:=⟨"_law_book",tu 40,[true,true,true],false⟩
def fi:DefR:=⟨"_law_whole",tu 41,[true],false⟩
def fk:DefR:=⟨"_law_name",tu 42,[true],false⟩
def ik:DefR:=⟨"_law_is_atom",tu 44,[true],false⟩
def cx:DefR:=⟨"_law_is_asking",tu 45,[true],false⟩
def ug:DefR:=⟨"law",tu 46,[false],false⟩
def Ik:List DefR:=[jj,ck,oz,mw,p9,fh,jc,u9,gq,di,c9,j7,cf,dh,qc,fe,cb,gu,ic,u0,lh,az,ni,i4,f7,cy,ly,my,nh,qa,gm,nc,fi,fk,ik,cx,ug]
def xs:XT:=⟨λx=>decide (x="AskError")||(decide (x="NoAsking")||(decide (x="Unlike")||(false))),λc y=>(decide (c="AskError") && decide (y="AskError"))||((decide (c="NoAsking") && decide (y="NoAsking"))||((decide (c="NoAsking") && decide (y="AskError"))||((decide (c="Unlike") && decide (y="Unlike"))||((decide (c="Unlike") && decide (y="AskError"))||(false))))),λc=>decide (c="AskError")||(decide (c="NoAsking")||(decide (c="Unlike")||(false))),λc y=>false⟩
def gs(x:Str):Option Str:=if x="LETTERS" then some "abcdefghijklmnopqrstuvwxyz" else none
def KL:Ea ug=true:=by decide+kernel
def tab(n:Nat):GT:=tm Ik gs xs n
def aW:List aH:=[.type "ValueError",.type "Exception",.type "BaseException",.type "object"]
def Pv:ExBase aW "ValueError.__new__":=⟨"ValueError",_,_,_,_,_,PySem.F.excBase_ValueError,by decide+kernel,PySem.F.excBase_ValueError⟩
end LK
end
section
namespace Pu
open PySem PySem.Spec PyProof.Rows L2
def c6{d:DefR}(h:gB T Vd (OR d.st d.lm) (f9 d.st)=F)(hn:(HF d.st).length=k)(hm:d.ms=ms)(ds:List D):af T d ds=df (F (bq ms ds++bE (k - ds.length) .no)):=by
 unfold af WG;rw[h,hn,hm]
def cu(h:r W=.ok ds):c7 tg r F W=turns tg F ds W:=by
 unfold c7;rw[h]
def b8(h:tg d W=some δ1):turns tg F (d::r) W=(match F δ1 with
  |.nx δ'=>turns tg F r δ'
  |.ct δ'=>turns tg F r δ'
  |.bk δ'=>.nx δ'
  |.rt d=>.rt d
  |.er c=>.er c
  |.st=>.st):=by
 show(match tg d W with
  |none=>Out.st
  |some δ1=>match F δ1 with
   |.nx δ'=>turns tg F r δ'
   |.ct δ'=>turns tg F r δ'
   |.bk δ'=>.nx δ'
   |.rt d=>.rt d
   |.er c=>.er c
   |.st=>.st)=_
 rw[h]
theorem Gc:∀{ds:List D},(∀d∈ds,f d=some (g d))->lx f ds=some (ds.filterMap g)
 |[],_=>rfl
 |d::r,h=>by
  unfold lx;rw[h d aI];dsimp only;rw[Gc λd hd=>h d (aE _ hd),dE];cases g d<;>rfl
def Dl{ds:List D}(hr:r W=.ok ds)(hl:ds.length<=aM)(hf:∀d∈ds,Br ix t g W d=some (h d)):b9 r ix t g W=.ok (.lst (ds.filterMap h)):=by
 unfold b9;rw[hr];dsimp only;rw[aJ hl,Gc hf]
def Zu(h:g (cc ix W (.pu d))=.ok y):Br ix (gC (.bl true)) g W d=some (some y):=by
 unfold Br gC;dsimp only;rw[h]
def zd(ht:t (cc ix W (.pu d))=.ok (.bl b))(h:b=true->g (cc ix W (.pu d))=.ok y):Br ix t g W d=some (if b then some y else none):=by
 unfold Br;rw[ht];cases b with
 |true=>dsimp only;rw[h rfl];rfl
 |false=>rfl
section
variable(W:En)(d e:D)(i j:Nat)(g h k c:En->Res)(F F':En->Out)(r:En->ResL)(f:D->Option D)(f2 f3:D->D->Option D)
@[simp] theorem Mv(ms:List Bool):bq ms []=[]:=by cases ms<;>rfl
@[simp] theorem Ut(ms:List Bool)(ds:List D):bq (true::ms) (d::ds)=.bo d::bq ms ds:=rfl
@[simp] theorem OG(ms:List Bool)(ds:List D):bq (false::ms) (d::ds)=.pu d::bq ms ds:=rfl
@[simp] theorem gy:ao F F' W=match F W with
 |.nx δ'=>F' δ'
 |o=>o:=rfl
@[simp] theorem Bs:cn W=.nx W:=rfl
@[simp] theorem YY:Rp W=.nx W:=rfl
@[simp] theorem aX:vo W=.st:=rfl
@[simp] theorem ZX:jz W=.st:=rfl
@[simp] theorem Z0:bw g W=(g W).then .rt:=rfl
@[simp] theorem Fz:i9 c F F' W=(c W).then λd=>match d with
 |.bl true=>F W
 |.bl false=>F' W
 |_=>.st:=rfl
@[simp] theorem Z3:bx i g W=(g W).then λd=>.nx (W.set i (.pu d)):=rfl
@[simp] theorem Z4:iz i g W=(g W).then λd=>match d with
 |.lst ds=>.nx (W.set i (.ow ds))
 |_=>.st:=rfl
@[simp] theorem YX:yx i W=.nx (W.set i (.od false [])):=rfl
@[simp] theorem VC:Ap i g W=(g W).then λd=>match d with
 |.dct false kvs=>.nx (W.set i (.od false kvs))
 |_=>.st:=rfl
@[simp] theorem fj(f:D->Out):(Res.ok d).then f=f d:=rfl
@[simp] theorem OC(f:D->Out):Res.st.then f=.st:=rfl
@[simp] theorem OD(f:D->Out)(c:Str):(Res.er c).then f=.er c:=rfl
@[simp] theorem Ho(f:D->Res):(Res.ok d).bind f=f d:=rfl
@[simp] theorem OH(f:D->Res):Res.st.bind f=.st:=rfl
@[simp] theorem OI(f:D->Res)(c:Str):(Res.er c).bind f=.er c:=rfl
@[simp] theorem Hq:Res.of (some d)=.ok d:=rfl
@[simp] theorem OE:Res.of none=.st:=rfl
@[simp] theorem TR:df (.rt d)=.ok d:=rfl
@[simp] theorem TU:df (.nx W)=.ok .non:=rfl
@[simp] theorem TQ:df .st=.st:=rfl
@[simp] theorem TV(c:Str):df (.er c)=.er c:=rfl
@[simp] theorem ZS:a6 i W=match W[i]? with
 |some (.pu d)=>.ok d
 |_=>.st:=rfl
@[simp] theorem SF:ae i W=match W[i]? with
 |some (.pu d)=>.ok d
 |some (.bo d)=>.ok d
 |some (.ow ds)=>.ok (.lst ds)
 |some (.od t kvs)=>.ok (.dct t kvs)
 |_=>.st:=rfl
@[simp] theorem ZF:yd i W=match W[i]? with
 |some (.pu d)=>.ok d
 |some (.bo d)=>.ok d
 |_=>.st:=rfl
@[simp] theorem ZE:gC d W=.ok d:=rfl
@[simp] theorem OZ:g1 f g W=(g W).bind λx=>Res.of (f x):=rfl
@[simp] theorem GP:g2 f2 g h W=(g W).bind λx=>(h W).bind λy=>Res.of (f2 x y):=rfl
@[simp] theorem ZY:Qq c g h W=(c W).bind λd=>match d with
 |.bl true=>g W
 |.bl false=>h W
 |_=>.st:=rfl
@[simp] theorem TX:gc c W=(c W).bind λd=>match d with
 |.bl b=>.ok (.bl !b)
 |_=>.st:=rfl
@[simp] theorem YB:ie g h W=(g W).bind λd=>match d with
 |.bl true=>h W
 |.bl false=>.ok (.bl false)
 |_=>.st:=rfl
@[simp] theorem YZ:vc g h W=(g W).bind λd=>match d with
 |.bl true=>.ok (.bl true)
 |.bl false=>h W
 |_=>.st:=rfl
@[simp] theorem TN:cv g W=(g W).bind λx=>Res.of (bD (Ff x)):=rfl
@[simp] theorem Z5(b:Bool):bD (Ff (.bl b))=some (.bl b):=rfl
@[simp] theorem UN:xa f2 f3 g h k W=(g W).bind λx=>(h W).bind λy=>(Res.of (f2 x y)).bind λz=>match z with
 |.bl true=>(k W).bind λw=>Res.of (f3 y w)
 |.bl false=>.ok (.bl false)
 |_=>.st:=rfl
@[simp] theorem Zx:aa g r W=match g W with
 | .ok d => (match r W with
  |.ok ds=>.ok (d::ds)
  |.er c=>.er c
  |.st=>.st)
 |.er c=>.er c
 |.st=>.st:=rfl
@[simp] theorem Zz:ah W=.ok []:=rfl
@[simp] theorem NB(fn:List D->Res):ai fn r W=match r W with
 |.ok ds=>fn ds
 |.er c=>.er c
 |.st=>.st:=rfl
@[simp] theorem TY:fm r W=match r W with
 |.ok ds=>if ds.length<=16777216 then .ok (.lst ds)else .st
 |.er c=>.er c
 |.st=>.st:=rfl
@[simp] theorem ZT:iu r W=match r W with
 |.ok ds=>if ds.length<=16777216 then .ok (.tup ds)else .st
 |.er c=>.er c
 |.st=>.st:=rfl
@[simp] theorem OV:a7 g W=match g W with
 | .ok d => (match Hs d with
  |some ds=>.ok ds
  |none=>.st)
 |.er c=>.er c
 |.st=>.st:=rfl
@[simp] theorem TM(ds:List D):Hs (.lst ds)=some ds:=rfl
@[simp] theorem TL(ds:List D):Hs (.tup ds)=some ds:=rfl
@[simp] theorem Zy:fz [] F W=F W:=rfl
@[simp] theorem NA(is:List Nat):fz (i::is) F W=fz is F (frz i W):=rfl
@[simp] theorem SD:frz i W=match W[i]? with
 |some (.ow ds)=>W.set i (.pu (.lst ds))
 |some (.od t kvs)=>W.set i (.pu (.dct t kvs))
 |_=>W:=rfl
@[simp] theorem SA:ar i d W=some (W.set i (.pu d)):=rfl
@[simp] theorem YA:qu i g W=match W[i]? with
 |some (.ow ds)=>(g W).then λd=>if ds.length<16777216 then .nx (W.set i (.ow (ds++[d])))else .st
 |_=>.st:=rfl
@[simp] theorem SE:yw i g W=match W[i]? with
 |some (.ow ds)=>(g W).then λd=>match xb d with
  |some es=>if ds.length+es.length<=16777216 then .nx (W.set i (.ow (ds++es)))else .st
  |none=>.st
 |_=>.st:=rfl
@[simp] theorem Uu(ds:List D):xb (.lst ds)=some ds:=rfl
@[simp] theorem OF(ds:List D):xb (.tup ds)=some ds:=rfl
@[simp] theorem VE(ds:List D):bu (.lst ds)=some (.int ds.length):=rfl
@[simp] theorem VD(ds:List D):bu (.tup ds)=some (.int ds.length):=rfl
@[simp] theorem UM(d:D)(xs:List D):ur d (.lst xs)=Me d (.lst xs):=rfl
@[simp] theorem UK(d:D)(xs:List D):ur d (.tup xs)=Me d (.tup xs):=rfl
@[simp] theorem UL(d:D)(x:Str):ur d (.str x)=Me d (.str x):=rfl
@[simp] theorem OY(d:D)(xs:List D):b0 d (.lst xs)=lr d (.lst xs):=rfl
@[simp] theorem OW(d:D)(xs:List D):b0 d (.tup xs)=lr d (.tup xs):=rfl
@[simp] theorem OX(d:D)(x:Str):b0 d (.str x)=lr d (.str x):=rfl
@[simp] theorem aY(a b:Int):Eh (.int a) (.int b)=some (.bl (decide (a<b))):=rfl
@[simp] theorem aZ(a b:Int):Ua (.int a) (.int b)=some (.bl (decide (a<=b))):=rfl
@[simp] theorem ZA(a b:Int):Ef (.int a) (.int b)=some (.bl (decide (b<a))):=rfl
@[simp] theorem ZC(a b:Int):RJ (.int a) (.int b)=some (.bl (decide (b<=a))):=rfl
@[simp] theorem ZZ(a b:Int):dj (.int a) (.int b)=some (.bl (a==b)):=rfl
@[simp] theorem ZV(a b:Int):fx (.int a) (.int b)=some (.bl (!(a==b))):=rfl
@[simp] theorem YC(a b:Int):a9 (.int a) (.int b)=some (.int (a+b)):=rfl
@[simp] theorem ZU(a b:Int):Ej (.int a) (.int b)=some (.int (a - b)):=rfl
@[simp] theorem ZW:tj d .non=some (.bl (l0 d)):=rfl
@[simp] theorem TZ:fo d .non=some (.bl (!l0 d)):=rfl
@[simp] theorem Uv(ds:List D):d4 (.lst ds)=some (.tup ds):=rfl
@[simp] theorem OB(ds:List D):d4 (.tup ds)=some (.tup ds):=rfl
@[simp] theorem ZD:gM f2 g h W=(g W).bind λx=>match x with
 |.lst xs=>(h W).bind λy=>Res.of (f2 (.lst xs) y)
 |_=>.st:=rfl
@[simp] theorem VN(x:Str):ba "str" (.str x)=some (.bl true):=by kernel_rfl
@[simp] theorem VQ(x:Int):ba "str" (.int x)=some (.bl false):=by kernel_rfl
@[simp] theorem VR(x:Bool):ba "str" (.bl x)=some (.bl false):=by kernel_rfl
@[simp] theorem VO:ba "str" .non=some (.bl false):=by kernel_rfl
@[simp] theorem VM(x:List D):ba "str" (.tup x)=some (.bl false):=by kernel_rfl
@[simp] theorem VP(x:List D):ba "str" (.lst x)=some (.bl false):=by kernel_rfl
@[simp] theorem VZ(x:Str):ba "int" (.str x)=some (.bl false):=by kernel_rfl
@[simp] theorem UC(x:Int):ba "int" (.int x)=some (.bl true):=by kernel_rfl
@[simp] theorem UD(x:Bool):ba "int" (.bl x)=some (.bl true):=by kernel_rfl
@[simp] theorem UA:ba "int" .non=some (.bl false):=by kernel_rfl
@[simp] theorem VY(x:List D):ba "int" (.tup x)=some (.bl false):=by kernel_rfl
@[simp] theorem UB(x:List D):ba "int" (.lst x)=some (.bl false):=by kernel_rfl
@[simp] theorem UF(x:Str):ba "bool" (.str x)=some (.bl false):=by kernel_rfl
@[simp] theorem UH(x:Int):ba "bool" (.int x)=some (.bl false):=by kernel_rfl
@[simp] theorem UI(x:Bool):ba "bool" (.bl x)=some (.bl true):=by kernel_rfl
@[simp] theorem UG:ba "bool" .non=some (.bl false):=by kernel_rfl
@[simp] theorem UE(x:List D):ba "bool" (.tup x)=some (.bl false):=by kernel_rfl
@[simp] theorem UJ(x:List D):ba "bool" (.lst x)=some (.bl false):=by kernel_rfl
@[simp] theorem GJ(x:Str):ba "tuple" (.str x)=some (.bl false):=by kernel_rfl
@[simp] theorem GN(x:Int):ba "tuple" (.int x)=some (.bl false):=by kernel_rfl
@[simp] theorem GO(x:Bool):ba "tuple" (.bl x)=some (.bl false):=by kernel_rfl
@[simp] theorem GK:ba "tuple" .non=some (.bl false):=by kernel_rfl
@[simp] theorem VL(x:List D):ba "tuple" (.tup x)=some (.bl true):=by kernel_rfl
@[simp] theorem GM(x:List D):ba "tuple" (.lst x)=some (.bl false):=by kernel_rfl
@[simp] theorem VT(x:Str):ba "list" (.str x)=some (.bl false):=by kernel_rfl
@[simp] theorem VW(x:Int):ba "list" (.int x)=some (.bl false):=by kernel_rfl
@[simp] theorem VX(x:Bool):ba "list" (.bl x)=some (.bl false):=by kernel_rfl
@[simp] theorem VU:ba "list" .non=some (.bl false):=by kernel_rfl
@[simp] theorem VS(x:List D):ba "list" (.tup x)=some (.bl false):=by kernel_rfl
@[simp] theorem VV(x:List D):ba "list" (.lst x)=some (.bl true):=by kernel_rfl
@[simp] theorem VJ(a b:D):aj (.tup [a,b]) (.int 0)=some a:=rfl
@[simp] theorem VI(a b:D):aj (.tup [a,b]) (.int 1)=some b:=rfl
@[simp] theorem VH(a b c:D):aj (.tup [a,b,c]) (.int 0)=some a:=rfl
@[simp] theorem VG(a b c:D):aj (.tup [a,b,c]) (.int 1)=some b:=rfl
@[simp] theorem VF(a b c:D):aj (.tup [a,b,c]) (.int 2)=some c:=rfl
def PQ(d:D):Prop:=∃p,fq d=some p/\eF p=true/\p.depth<=8
def FG(i:Int):PQ (.int i):=⟨.int i,rfl,rfl,cT _⟩
def Ru(h:bO x=true):PQ (.str x):=⟨.str x,rfl,h,cT _⟩
def AM(ds:List D):Prop:=∃ps,fb ds=some ps/\bC ps=true/\cI ps<=8
theorem NR:∀{ds:List D},(∀d∈ds,PQ d)->AM ds
 |[],_=>⟨[],rfl,rfl,cT _⟩
 |d::r,h=>by
  obtain⟨p,e1,e2,e3⟩:=h d aI;obtain⟨ps,f1,f2,f3⟩:=NR (ds:=r) λd hd=>h d (aE _ hd);refine⟨p::ps,by unfold fb;rw[e1,f1],?_,Nat.max_le.mpr ⟨e3,f3⟩⟩;show(eF p && bC ps)=true;rw[e2,f2];rfl
def sd{p:jC}(h1:eF p=true)(h2:p.depth<=63):cU p=true:=by
 unfold cU;rw[h1,decide_eq_true (by lia)];rfl
def V3{d e:D}{p q:jC}(h1:fq d=some p)(h2:fq e=some q)(a1:eF p=true)(a2:p.depth<=63)(b1:eF q=true)(b2:q.depth<=63):S5 d e=some (bZ p q):=by
 unfold S5;rw[h1,h2];dsimp only;rw[sd a1 a2,sd b1 b2];rfl
def Qh{ds:List D}(h:AM ds):dj (.lst ds) (.lst [])=some (.bl ds.isEmpty)/\fx (.lst ds) (.lst [])=some (.bl (!ds.isEmpty)):=by
 obtain⟨ps,e1,e2,e3⟩:=h;have q:S5 (.lst ds) (.lst [])=some (bZ (.list ps) (.list [])):=V3 (by unfold fq;rw[e1]) rfl e2 (show cI ps+1<=63 by lia) rfl (show 0+1<=63 by lia);have e:bZ (.list ps) (.list [])=ds.isEmpty:=by
  cases ds with
  |nil=>cases e1;rfl
  |cons d r=>
   unfold fb at e1;cases h1:fq d with
   |none=>rw[h1]at e1;cases e1
   |some p=>
    cases h2:fb r with
    |none=>rw[h1,h2]at e1;cases e1
    |some ps'=>rw[h1,h2]at e1;cases e1;rfl
 unfold dj fx;rw[q,e];exact⟨rfl,rfl⟩
def Mw(a b:Int)(h:0<b):wd (.int a) (.int b)=some (.int (a % b)):=aJ h
def Fg(a b:Int)(h:(-(2 ^ 64)<a/\a<2 ^ 64)\/(-(2 ^ 64)<b/\b<2 ^ 64)):jm (.int a) (.int b)=some (.int (a * b)):=aJ h
def rg(hr:r W=.ok [.int j'])(h:-(2 ^ 62)<=j'/\j'<2 ^ 62):ir r W=.ok (i8 0 j'.toNat):=by
 unfold ir;rw[hr];exact aJ h
end
end Pu
end
section
namespace LK
open PySem PySem.Spec PyProof.Rows L2 Pu
def Kd(n:Nat):En->Out:=(bw (g1 d4 (b9 (a7 (ae 0)) [1] (gC (.bl true)) (Qq (cv (g1 (ba "str") (ae 0))) (g2 aj (ae 1) (ae 0)) (a6 0)))))
def Vy(n:Nat)(ds:List D):af (tab (n+1)) jj ds=df (Kd n (bq [true,true] ds++bE (2 - ds.length) .no)):=c6 (by kernel_rfl) (by decide+kernel) rfl ds
def lg(n:Nat):En->Out:=(ao (i9 (g2 fx (g1 bu (ae 1)) (g1 bu (ae 2))) (bw (gC .non)) cn)
 (ao (Ap 3 (ae 0))
 (ao (c7 (yf [4,5]) (N3 (aa (ae 1) (aa (ae 2) ah))) (ao (fz [4,5,4] (uu 6 (B0 (cv (g1 (ba "str") (ae 4))) (iw 3 (ae 4) (a6 5)) (Dm (a6 4)))))
 (i9 (g2 fx (ae 6) (ae 5)) (bw (gC .non)) cn)))
 (fz [3] (bw (a6 3))))))
def Fs(n:Nat)(ds:List D):af (tab (n+1)) ck ds=df (lg n (bq [true,true,true] ds++bE (7 - ds.length) .no)):=c6 (by kernel_rfl) (by decide+kernel) rfl ds
def Av(n:Nat):En->Out:=(bw (ie (g1 (ba "int") (ae 0)) (gc (g1 (ba "bool") (ae 0)))))
def Kp(n:Nat)(ds:List D):af (tab (n+1)) oz ds=df (Av n (bq [true] ds++bE (1 - ds.length) .no)):=c6 (by kernel_rfl) (by decide+kernel) rfl ds
def mr(n:Nat):En->Out:=(bw (ie (g1 (ba "str") (ae 0)) (ie (xa Ua Ua (gC (.int 1)) (g1 bu (ae 0)) (gC (.int 8))) (g1 Bi (b9 (a7 (ae 0)) [] (gC (.bl true)) (g2 ur (ae 0) (gC (.str "abcdefghijklmnopqrstuvwxyz"))))))))
def mz(n:Nat)(ds:List D):af (tab (n+1)) mw ds=df (mr n (bq [true] ds++bE (1 - ds.length) .no)):=c6 (by kernel_rfl) (by decide+kernel) rfl ds
def zr(n:Nat):En->Out:=(bw (vc (ai (af (tab n) mw) (aa (ae 0) ah)) (ai (af (tab n) oz) (aa (ae 0) ah))))
def Sv(n:Nat)(ds:List D):af (tab (n+1)) p9 ds=df (zr n (bq [true] ds++bE (1 - ds.length) .no)):=c6 (by kernel_rfl) (by decide+kernel) rfl ds
def de(n:Nat):En->Out:=(ao (i9 (vc (gc (cv (g1 (ba "tuple") (ae 0)))) (gc (xa Ua Ua (ae 1) (g1 bu (ae 0)) (ae 2)))) (bw (gC (.bl false))) cn)
 (bw (g1 Bi (b9 (a7 (ae 0)) [3] (gC (.bl true)) (Dk (tab (n+1)) 1 [((ae 0),(a6 0))])))))
def Fm(n:Nat)(ds:List D):af (tab (n+1)) fh ds=df (de n (bq [true,true,true,true] ds++bE (4 - ds.length) .no)):=c6 (by kernel_rfl) (by decide+kernel) rfl ds
def ja(n:Nat):En->Out:=(bw (ie (g1 (ba "tuple") (ae 0)) (g2 dj (g1 bu (ae 0)) (gC (.int 2)))))
def Gh(n:Nat)(ds:List D):af (tab (n+1)) jc ds=df (ja n (bq [true] ds++bE (1 - ds.length) .no)):=c6 (by kernel_rfl) (by decide+kernel) rfl ds
def p7(n:Nat):En->Out:=(bw (ie (ai (af (tab n) jc) (aa (ae 0) ah)) (ie (ai (af (tab n) mw) (aa (g2 aj (ae 0) (gC (.int 0))) ah)) (ai (af (tab n) fh) (aa (g2 aj (ae 0) (gC (.int 1))) (aa (gC (.int 1)) (aa (gC (.int 4)) (aa (gC (.fn "is_term")) ah))))))))
def Su(n:Nat)(ds:List D):af (tab (n+1)) u9 ds=df (p7 n (bq [true] ds++bE (1 - ds.length) .no)):=c6 (by kernel_rfl) (by decide+kernel) rfl ds
def jf(n:Nat):En->Out:=(ao (yx 1)
 (ao (fz [0] (c7 (ar 2) (a7 (yd 0)) (Jp (A9 fx (iw 1 (g2 aj (ae 2) (gC (.int 0))) (g1 bu (g2 aj (ae 2) (gC (.int 1))))) (g1 bu (g2 aj (ae 2) (gC (.int 1))))) (bw (gC (.bl false))) cn)))
 (bw (gC (.bl true)))))
def vn(n:Nat)(ds:List D):af (tab (n+1)) gq ds=df (jf n (bq [true] ds++bE (3 - ds.length) .no)):=c6 (by kernel_rfl) (by decide+kernel) rfl ds
def ub(n:Nat):En->Out:=(ao (yx 1)
 (ao (fz [0] (c7 (ar 2) (a7 (yd 0)) (i9 (cv (g1 (ba "str") (ae 2))) (Ao 1 (ae 2) (gC (.bl true))) cn)))
 (bw (g1 iy (ae 1)))))
def Kt(n:Nat)(ds:List D):af (tab (n+1)) di ds=df (ub n (bq [true] ds++bE (3 - ds.length) .no)):=c6 (by kernel_rfl) (by decide+kernel) rfl ds
def wm(n:Nat):En->Out:=(ao (iz 1 (fm ah))
 (ao (fz [0] (c7 (ar 2) (a7 (yd 0)) (yw 1 (g2 aj (ae 2) (gC (.int 1))))))
 (fz [1] (bw (a6 1)))))
def Nw(n:Nat)(ds:List D):af (tab (n+1)) c9 ds=df (wm n (bq [true] ds++bE (3 - ds.length) .no)):=c6 (by kernel_rfl) (by decide+kernel) rfl ds
def t7(n:Nat):En->Out:=(ao (bx 2 (ai (af (tab n) di) (aa (ai (af (tab n) c9) (aa (ae 1) ah)) ah)))
 (bw (g1 Bi (b9 (a7 (ai (af (tab n) di) (aa (ae 0) ah))) [2] (gC (.bl true)) (g2 ur (ae 0) (ae 1))))))
def Df(n:Nat)(ds:List D):af (tab (n+1)) j7 ds=df (t7 n (bq [true,true] ds++bE (3 - ds.length) .no)):=c6 (by kernel_rfl) (by decide+kernel) rfl ds
def gr(n:Nat):En->Out:=(ao (i9 (gc (cv (ai (af (tab n) jc) (aa (ae 0) ah)))) (kc "NoAsking" (aa (gC (.str "an asking is a tuple of a head and atoms")) ah)) cn)
 (ao (bx 1 (g2 aj (ae 0) (gC (.int 0))))
 (ao (bx 2 (g2 aj (ae 0) (gC (.int 1))))
 (ao (i9 (gc (cv (ai (af (tab n) fh) (aa (ae 1) (aa (gC (.int 0)) (aa (gC (.int 4)) (aa (gC (.fn "is_term")) ah))))))) (kc "NoAsking" (aa (gC (.str "a head is a tuple of at most 4 terms")) ah)) cn)
 (ao (i9 (gc (cv (ai (af (tab n) fh) (aa (ae 2) (aa (gC (.int 1)) (aa (gC (.int 6)) (aa (gC (.fn "is_atom")) ah))))))) (kc "NoAsking" (aa (gC (.str "an asking has a tuple of 1 to 6 atoms")) ah)) cn)
 (ao (i9 (gc (cv (ai (af (tab n) gq) (aa (ae 2) ah)))) (kc "NoAsking" (aa (gC (.str "atoms of one name have equally many terms")) ah)) cn)
 (ao (i9 (gc (cv (ai (af (tab n) j7) (aa (ae 1) (aa (ae 2) ah))))) (kc "NoAsking" (aa (gC (.str "each stand-in of the head stands in an atom")) ah)) cn)
 (fz [0] (bw (a6 0))))))))))
def ku(n:Nat)(ds:List D):af (tab (n+1)) cf ds=df (gr n (bq [false] ds++bE (3 - ds.length) .no)):=c6 (by kernel_rfl) (by decide+kernel) rfl ds
def ua(n:Nat):En->Out:=(ao (i9 (gc (cv (ae 0))) (fz [2] (bw (a6 2))) cn)
 (ao (bx 3 (g2 aj (g2 aj (ae 0) (gC (.int 0))) (gC (.int 0))))
 (ao (fz [1] (c7 (ar 4) (a7 (yd 1)) (ao (bx 5 (Qq (g2 dj (g2 aj (ae 4) (gC (.int 0))) (ae 3)) (ai (af (tab n) ck) (aa (ae 2) (aa (g2 aj (g2 aj (ae 0) (gC (.int 0))) (gC (.int 1))) (aa (g2 aj (ae 4) (gC (.int 1))) ah)))) (gC .non)))
 (ao (fz [5] (bx 6 (Qq (g2 tj (ae 5) (gC .non)) (gC .non) (ai (af (tab n) dh) (aa (M5 (ae 0) (some (gC (.int 1))) none) (aa (ae 1) (aa (a6 5) ah)))))))
 (i9 (g2 fo (ae 6) (gC .non)) (fz [6] (bw (a6 6))) cn)))))
 (bw (gC .non)))))
def A6(n:Nat)(ds:List D):af (tab (n+1)) dh ds=df (ua n (bq [true,true,false] ds++bE (7 - ds.length) .no)):=c6 (by kernel_rfl) (by decide+kernel) rfl ds
def F7(n:Nat):En->Out:=(ao (bx 2 (ai (af (tab n) ck) (aa (gC (.dct false [])) (aa (g2 aj (ae 1) (gC (.int 0))) (aa (g2 aj (ae 0) (gC (.int 0))) ah)))))
 (fz [2] (bw (Qq (g2 tj (ae 2) (gC .non)) (gC .non) (ai (af (tab n) dh) (aa (g2 aj (ae 1) (gC (.int 1))) (aa (g2 aj (ae 0) (gC (.int 1))) (aa (a6 2) ah))))))))
def Sy(n:Nat)(ds:List D):af (tab (n+1)) qc ds=df (F7 n (bq [true,true] ds++bE (3 - ds.length) .no)):=c6 (by kernel_rfl) (by decide+kernel) rfl ds
def Ib(n:Nat):En->Out:=(bw (b9 (a7 (g2 a9 (g1 iy (g2 aj (ae 0) (gC (.int 0)))) (ai (af (tab n) c9) (aa (g2 aj (ae 0) (gC (.int 1))) ah)))) [] (gc (cv (g1 (ba "str") (ae 0)))) (a6 0)))
def Io(n:Nat)(ds:List D):af (tab (n+1)) fe ds=df (Ib n (bq [true] ds++bE (1 - ds.length) .no)):=c6 (by kernel_rfl) (by decide+kernel) rfl ds
def p8(n:Nat):En->Out:=(ao (bx 2 (g2 a9 (g1 (xn 0) (g2 a9 (ai (af (tab n) fe) (aa (ae 0) ah)) (ai (af (tab n) fe) (aa (ae 1) ah)))) (gC (.int 1))))
 (bw (g1 sa (nq (tf (ai (af (tab n) di) (aa (ai (af (tab n) c9) (aa (g2 aj (ae 0) (gC (.int 1))) ah)) ah))) (Bq [2] (iu (aa (a6 1) (aa (g2 a9 (ae 2) (ae 0)) ah))))))))
def qg(n:Nat)(ds:List D):af (tab (n+1)) cb ds=df (p8 n (bq [true,true] ds++bE (3 - ds.length) .no)):=c6 (by kernel_rfl) (by decide+kernel) rfl ds
def t9(n:Nat):En->Out:=(ao (bx 2 (ai (af (tab n) cb) (aa (ae 0) (aa (ae 1) ah))))
 (ao (Eo 3)
 (ao (c7 (ar 4) (a7 (g2 aj (ae 0) (gC (.int 1)))) (xo 3 (iu (aa (g2 aj (ae 4) (gC (.int 0))) (aa (ai (af (tab n) jj) (aa (g2 aj (ae 4) (gC (.int 1))) (aa (ae 2) ah))) ah))) (gC (.bl true))))
 (bw (iu (aa (gC (.str "book")) (aa (g1 oh (ae 3)) (aa (ai (af (tab n) jj) (aa (g2 aj (ae 0) (gC (.int 0))) (aa (ae 2) ah))) ah))))))))
def Dg(n:Nat)(ds:List D):af (tab (n+1)) gu ds=df (t9 n (bq [true,true] ds++bE (5 - ds.length) .no)):=c6 (by kernel_rfl) (by decide+kernel) rfl ds
def Ke(n:Nat):En->Out:=(ao (fz [0] (yu (ai (af (tab n) cf) (aa (a6 0) ah))))
 (ao (fz [1] (yu (ai (af (tab n) cf) (aa (a6 1) ah))))
 (ao (i9 (g2 fx (g1 bu (g2 aj (ae 0) (gC (.int 0)))) (g1 bu (g2 aj (ae 1) (gC (.int 0))))) (kc "Unlike" (aa (gC (.str "the heads have unlike many terms")) ah)) cn)
 (ao (bx 2 (ai (af (tab n) qc) (aa (ae 0) (aa (ae 1) ah))))
 (ao (i9 (g2 tj (ae 2) (gC .non)) (bw (ai (af (tab n) gu) (aa (ae 0) (aa (ae 1) ah)))) cn)
 (bw (iu (aa (gC (.str "way")) (aa (b9 (a7 (ai (af (tab n) di) (aa (ai (af (tab n) c9) (aa (g2 aj (ae 1) (gC (.int 1))) ah)) ah))) [2] (gC (.bl true)) (iu (aa (a6 0) (aa (g2 aj (ae 1) (ae 0)) ah)))) ah)))))))))
def Ku(n:Nat)(ds:List D):af (tab (n+1)) ic ds=df (Ke n (bq [false,false] ds++bE (3 - ds.length) .no)):=c6 (by kernel_rfl) (by decide+kernel) rfl ds
def Ia(n:Nat):En->Out:=(fz [0,1,1,0] (bw (ie (g2 dj (g2 aj (ai (af (tab n) ic) (aa (a6 0) (aa (a6 1) ah))) (gC (.int 0))) (gC (.str "way"))) (g2 dj (g2 aj (ai (af (tab n) ic) (aa (a6 1) (aa (a6 0) ah))) (gC (.int 0))) (gC (.str "way"))))))
def BX(n:Nat)(ds:List D):af (tab (n+1)) u0 ds=df (Ia n (bq [false,false] ds++bE (2 - ds.length) .no)):=c6 (by kernel_rfl) (by decide+kernel) rfl ds
def k9(n:Nat):En->Out:=(ao (i9 (g2 Eh (ae 1) (g1 bu (ae 0))) (bw (g2 aj (ae 0) (ae 1))) cn)
 (ao (i9 (g2 dj (ae 0) (fm ah)) (bw (gC (.int 0))) cn)
 (bw (g2 a9 (g2 jm (g2 aj (ae 0) (g2 wd (ae 1) (g1 bu (ae 0)))) (gC (.int 31))) (ae 1)))))
def Fp(n:Nat)(ds:List D):af (tab (n+1)) lh ds=df (k9 n (bq [true,true] ds++bE (2 - ds.length) .no)):=c6 (by kernel_rfl) (by decide+kernel) rfl ds
def Aw(n:Nat):En->Out:=(ao (bx 3 (g2 wd (g2 jm (g2 a9 (g2 a9 (ai (af (tab n) lh) (aa (ae 0) (aa (ae 1) ah))) (g2 jm (gC (.int 7919)) (ae 1))) (gC (.int 1))) (gC (.int 48271))) (gC (.int 2147483647))))
 (bw (g2 wd (g2 wd (g2 a9 (g2 a9 (g2 jm (ae 3) (ae 3)) (g2 jm (gC (.int 7)) (ae 3))) (ae 1)) (gC (.int 2147483629))) (ae 2))))
def Kq(n:Nat)(ds:List D):af (tab (n+1)) az ds=df (Aw n (bq [true,true,true] ds++bE (4 - ds.length) .no)):=c6 (by kernel_rfl) (by decide+kernel) rfl ds
def C3(n:Nat):En->Out:=(ao (bx 2 (ai (af (tab n) az) (aa (ae 0) (aa (ae 1) (aa (gC (.int 12)) ah)))))
 (ao (i9 (g2 Eh (ae 2) (gC (.int 10))) (bw (g2 jm (g2 aj (gC (.str "xyzuv")) (g2 wd (ae 2) (gC (.int 5)))) (g2 a9 (gC (.int 1)) (g2 Ow (ae 2) (gC (.int 9)))))) cn)
 (bw (g2 Ej (ae 2) (gC (.int 11))))))
def Nv(n:Nat)(ds:List D):af (tab (n+1)) ni ds=df (C3 n (bq [true,true] ds++bE (3 - ds.length) .no)):=c6 (by kernel_rfl) (by decide+kernel) rfl ds
def ri(n:Nat):En->Out:=(ao (bx 2 (g2 aj (fm (aa (gC (.str "r")) (aa (gC (.str "s")) (aa (gC (.str "t")) ah)))) (ai (af (tab n) az) (aa (ae 0) (aa (ae 1) (aa (gC (.int 3)) ah))))))
 (ao (fz [2] (bx 3 (g2 a9 (gM jd (fm (aa (gC (.str "t")) (aa (gC (.str "r")) (aa (gC (.str "s")) ah)))) (ae 2)) (gC (.int 1)))))
 (fz [2] (bw (iu (aa (a6 2) (aa (g1 d4 (b9 (ir (aa (ae 3) ah)) [1,0] (gC (.bl true)) (ai (af (tab n) ni) (aa (ae 2) (aa (g2 a9 (g2 a9 (ae 1) (gC (.int 1))) (ae 0)) ah))))) ah)))))))
def Nr(n:Nat)(ds:List D):af (tab (n+1)) i4 ds=df (ri n (bq [true,true] ds++bE (4 - ds.length) .no)):=c6 (by kernel_rfl) (by decide+kernel) rfl ds
def xw(n:Nat):En->Out:=(ao (bx 4 (g1 d4 (b9 (ir (aa (g2 a9 (gC (.int 1)) (ai (af (tab n) az) (aa (ae 0) (aa (g2 a9 (ae 1) (gC (.int 30))) (aa (ae 2) ah))))) ah)) [1,0] (gC (.bl true)) (ai (af (tab n) i4) (aa (ae 2) (aa (g2 a9 (ae 1) (g2 jm (gC (.int 4)) (ae 0))) ah))))))
 (ao (iz 5 (fm ah))
 (ao (fz [4] (c7 (ar 6) (a7 (yd 4)) (yw 5 (b9 (a7 (g2 aj (ae 6) (gC (.int 1)))) [] (cv (g1 (ba "str") (ae 0))) (a6 0)))))
 (ao (iz 7 (fm ah))
 (ao (c7 (ar 3) (ir (aa (ai (af (tab n) az) (aa (ae 0) (aa (g2 a9 (ae 1) (gC (.int 31))) (aa (gC (.int 3)) ah)))) ah)) (i9 (vc (g2 dj (ae 5) (fm ah)) (g2 dj (ai (af (tab n) az) (aa (ae 0) (aa (g2 a9 (g2 a9 (ae 1) (gC (.int 32))) (ae 3)) (aa (gC (.int 8)) ah)))) (gC (.int 0)))) (qu 7 (ai (af (tab n) az) (aa (ae 0) (aa (g2 a9 (g2 a9 (ae 1) (gC (.int 34))) (ae 3)) (aa (gC (.int 2)) ah))))) (qu 7 (g2 aj (ae 5) (ai (af (tab n) az) (aa (ae 0) (aa (g2 a9 (g2 a9 (ae 1) (gC (.int 34))) (ae 3)) (aa (g1 bu (ae 5)) ah))))))))
 (fz [4] (bw (iu (aa (g1 d4 (ae 7)) (aa (a6 4) ah))))))))))
def Im(n:Nat)(ds:List D):af (tab (n+1)) f7 ds=df (xw n (bq [true,true,true] ds++bE (8 - ds.length) .no)):=c6 (by kernel_rfl) (by decide+kernel) rfl ds
def l9(n:Nat):En->Out:=(ao (iz 1 (fm ah))
 (ao (fz [0] (c7 (ar 2) (a7 (yd 0)) (c7 (ar 3) (a7 (g2 aj (ae 2) (gC (.int 1)))) (i9 (ie (cv (g1 (ba "str") (ae 3))) (g2 b0 (ae 3) (ae 1))) (fz [3] (qu 1 (a6 3))) cn))))
 (fz [1] (bw (a6 1)))))
def By(n:Nat)(ds:List D):af (tab (n+1)) cy ds=df (l9 n (bq [true] ds++bE (4 - ds.length) .no)):=c6 (by kernel_rfl) (by decide+kernel) rfl ds
def Ax(n:Nat):En->Out:=(ao (bx 2 (ai (af (tab n) az) (aa (ae 0) (aa (gC (.int 80)) (aa (gC (.int 4)) ah)))))
 (ao (i9 (g2 dj (ae 2) (gC (.int 0))) (ao (bx 3 (ai (af (tab n) f7) (aa (ae 0) (aa (gC (.int 40)) (aa (gC (.int 3)) ah)))))
 (bw (iu (aa (M5 (g2 a9 (g2 aj (ae 3) (gC (.int 0))) (iu (aa (gC (.int 0)) (aa (gC (.int 0)) ah)))) none (some (g1 bu (g2 aj (ae 1) (gC (.int 0)))))) (aa (g2 aj (ae 3) (gC (.int 1))) ah))))) cn)
 (ao (yx 4)
 (ao (c7 (yf [5,6]) (tf (ai (af (tab n) cy) (aa (g2 aj (ae 1) (gC (.int 1))) ah))) (fz [6] (Ao 4 (ae 6) (g2 aj (fm (aa (a6 6) (aa (g2 jm (gC (.str "w")) (g2 a9 (gC (.int 1)) (ae 5))) (aa (gC (.str "x")) (aa (gC (.int 0)) ah))))) (ai (af (tab n) az) (aa (ae 0) (aa (g2 a9 (gC (.int 81)) (ae 5)) (aa (g2 Ei (gC (.int 4)) (g2 a9 (gC (.int 2)) (ae 2))) ah))))))))
 (ao (fz [6,6] (iz 7 (b9 (a7 (g2 aj (ae 1) (gC (.int 1)))) [4] (gC (.bl true)) (iu (aa (g2 aj (ae 0) (gC (.int 0))) (aa (g1 d4 (b9 (a7 (g2 aj (ae 0) (gC (.int 1)))) [1] (gC (.bl true)) (km (ae 1) (ae 0) (a6 0)))) ah))))))
 (ao (i9 (g2 dj (ae 2) (gC (.int 2))) (bx 7 (g2 a9 (ae 7) (fm (aa (ai (af (tab n) i4) (aa (ae 0) (aa (gC (.int 90)) ah))) ah)))) cn)
 (ao (i9 (ie (g2 dj (ae 2) (gC (.int 3))) (g2 Ef (g1 bu (ae 7)) (gC (.int 1)))) (bx 7 (M5 (ae 7) (some (gC (.int 1))) none)) cn)
 (ao (bx 8 (ai (af (tab n) cy) (aa (ae 7) ah)))
 (ao (iz 9 (fm ah))
 (ao (c7 (ar 6) (a7 (g2 aj (ae 1) (gC (.int 0)))) (ao (fz [6,6] (bx 10 (km (ae 4) (ae 6) (a6 6))))
 (ao (i9 (ie (cv (g1 (ba "str") (ae 10))) (g2 b0 (ae 10) (ae 8))) (bx 10 (g2 aj (g2 a9 (ae 8) (fm (aa (gC (.int 0)) ah))) (gC (.int 0)))) cn)
 (fz [10] (qu 9 (a6 10))))))
 (bw (iu (aa (g1 d4 (ae 9)) (aa (g1 d4 (ae 7)) ah))))))))))))))
def Kr(n:Nat)(ds:List D):af (tab (n+1)) ly ds=df (Ax n (bq [true,true] ds++bE (11 - ds.length) .no)):=c6 (by kernel_rfl) (by decide+kernel) rfl ds
def zt(n:Nat):En->Out:=(ao (Ap 3 (ae 0))
 (ao (c7 (ar 4) (ir (aa (g1 bu (ae 1)) ah)) (i9 (gc (cv (g1 (ba "str") (g2 aj (ae 1) (ae 4))))) (i9 (g2 fx (g2 aj (ae 1) (ae 4)) (g2 aj (ae 2) (ae 4))) (bw (gC .non)) cn) (i9 (g2 b0 (g2 aj (ae 1) (ae 4)) (ae 3)) (Ao 3 (g2 aj (ae 1) (ae 4)) (g2 aj (ae 2) (ae 4))) (i9 (g2 fx (g2 aj (ae 3) (g2 aj (ae 1) (ae 4))) (g2 aj (ae 2) (ae 4))) (bw (gC .non)) cn))))
 (fz [3] (bw (a6 3)))))
def Sw(n:Nat)(ds:List D):af (tab (n+1)) my ds=df (zt n (bq [true,true,true] ds++bE (5 - ds.length) .no)):=c6 (by kernel_rfl) (by decide+kernel) rfl ds
def wk(n:Nat):En->Out:=(ao (iz 2 (fm (aa (gC (.dct false [])) ah)))
 (ao (fz [0] (c7 (ar 3) (a7 (yd 0)) (ao (iz 4 (fm ah))
 (ao (fz [2] (c7 (ar 5) (a7 (yd 2)) (fz [1] (c7 (ar 6) (a7 (yd 1)) (ao (bx 7 (gC .non))
 (ao (i9 (ie (g2 dj (g2 aj (ae 6) (gC (.int 0))) (g2 aj (ae 3) (gC (.int 0)))) (g2 dj (g1 bu (g2 aj (ae 6) (gC (.int 1)))) (g1 bu (g2 aj (ae 3) (gC (.int 1)))))) (bx 7 (ai (af (tab n) my) (aa (ae 5) (aa (g2 aj (ae 3) (gC (.int 1))) (aa (g2 aj (ae 6) (gC (.int 1))) ah))))) cn)
 (i9 (g2 fo (ae 7) (gC .non)) (fz [7] (qu 4 (a6 7))) cn)))))))
 (fz [4] (bx 2 (a6 4)))))))
 (fz [2] (bw (a6 2)))))
def Nu(n:Nat)(ds:List D):af (tab (n+1)) nh ds=df (wk n (bq [true,true] ds++bE (8 - ds.length) .no)):=c6 (by kernel_rfl) (by decide+kernel) rfl ds
def F6(n:Nat):En->Out:=(ao (iz 2 (fm ah))
 (ao (fz [1] (c7 (ar 3) (a7 (yd 1)) (i9 (cv (g1 (ba "str") (ae 3))) (qu 2 (g2 aj (ae 0) (ae 3))) (fz [3] (qu 2 (a6 3))))))
 (bw (g1 d4 (ae 2)))))
def Sx(n:Nat)(ds:List D):af (tab (n+1)) qa ds=df (F6 n (bq [true,true] ds++bE (4 - ds.length) .no)):=c6 (by kernel_rfl) (by decide+kernel) rfl ds
def vq(n:Nat):En->Out:=(bw (g1 j0 (b9 (a7 (ai (af (tab n) nh) (aa (g2 aj (ae 0) (gC (.int 1))) (aa (ae 1) ah)))) [0] (gC (.bl true)) (ai (af (tab n) qa) (aa (ae 0) (aa (g2 aj (ae 1) (gC (.int 0))) ah))))))
def Fo(n:Nat)(ds:List D):af (tab (n+1)) gm ds=df (vq n (bq [true,true] ds++bE (2 - ds.length) .no)):=c6 (by kernel_rfl) (by decide+kernel) rfl ds
def Cz(n:Nat):En->Out:=(ao (iz 3 (fm ah))
 (ao (bx 4 (g2 Jm (gC (.int 0)) (g2 Ej (ai (af (tab n) az) (aa (ae 0) (aa (g2 a9 (ae 1) (gC (.int 50))) (aa (gC (.int 6)) ah)))) (gC (.int 3)))))
 (ao (c7 (ar 5) (ir (aa (ai (af (tab n) az) (aa (ae 0) (aa (ae 1) (aa (g2 a9 (ae 2) (gC (.int 1))) ah)))) ah)) (ao (bx 6 (g2 aj (fm (aa (gC (.str "r")) (aa (gC (.str "s")) (aa (gC (.str "t")) ah)))) (ai (af (tab n) az) (aa (ae 0) (aa (g2 a9 (g2 a9 (ae 1) (gC (.int 1))) (g2 jm (gC (.int 4)) (ae 5))) (aa (gC (.int 3)) ah))))))
 (ao (fz [6] (bx 7 (g2 a9 (g2 wd (g2 a9 (gM jd (fm (aa (gC (.str "t")) (aa (gC (.str "r")) (aa (gC (.str "s")) ah)))) (ae 6)) (ae 4)) (gC (.int 3))) (gC (.int 1)))))
 (fz [6] (qu 3 (iu (aa (a6 6) (aa (g1 d4 (b9 (ir (aa (ae 7) ah)) [1,5,0] (gC (.bl true)) (g2 Ej (ai (af (tab n) az) (aa (ae 3) (aa (g2 a9 (g2 a9 (g2 a9 (ae 1) (gC (.int 2))) (g2 jm (gC (.int 4)) (ae 2))) (ae 0)) (aa (gC (.int 4)) ah)))) (gC (.int 1))))) ah))))))))
 (bw (g1 j0 (ae 3))))))
def Nt(n:Nat)(ds:List D):af (tab (n+1)) nc ds=df (Cz n (bq [true,true,true] ds++bE (8 - ds.length) .no)):=c6 (by kernel_rfl) (by decide+kernel) rfl ds
def Ay(n:Nat):En->Out:=(bw (ie (g1 (ba "int") (ae 0)) (gc (g1 (ba "bool") (ae 0)))))
def Ks(n:Nat)(ds:List D):af (tab (n+1)) fi ds=df (Ay n (bq [true] ds++bE (1 - ds.length) .no)):=c6 (by kernel_rfl) (by decide+kernel) rfl ds
def kr(n:Nat):En->Out:=(ao (i9 (vc (gc (cv (g1 (ba "str") (ae 0)))) (vc (g2 Eh (g1 bu (ae 0)) (gC (.int 1))) (g2 Ef (g1 bu (ae 0)) (gC (.int 8))))) (bw (gC (.bl false))) cn)
 (bw (g2 dj (b9 (a7 (ae 0)) [] (g2 b0 (ae 0) (gC (.str "abcdefghijklmnopqrstuvwxyz"))) (a6 0)) (fm ah))))
def ky(n:Nat)(ds:List D):af (tab (n+1)) fk ds=df (kr n (bq [true] ds++bE (1 - ds.length) .no)):=c6 (by kernel_rfl) (by decide+kernel) rfl ds
def ff(n:Nat):En->Out:=(ao (i9 (vc (gc (cv (g1 (ba "tuple") (ae 0)))) (vc (g2 fx (g1 bu (ae 0)) (gC (.int 2))) (vc (gc (cv (ai (af (tab n) fk) (aa (g2 aj (ae 0) (gC (.int 0))) ah)))) (gc (cv (g1 (ba "tuple") (g2 aj (ae 0) (gC (.int 1))))))))) (bw (gC (.bl false))) cn)
 (ao (i9 (vc (g2 Eh (g1 bu (g2 aj (ae 0) (gC (.int 1)))) (gC (.int 1))) (g2 Ef (g1 bu (g2 aj (ae 0) (gC (.int 1)))) (gC (.int 4)))) (bw (gC (.bl false))) cn)
 (bw (g2 dj (b9 (a7 (g2 aj (ae 0) (gC (.int 1)))) [] (ie (gc (cv (ai (af (tab n) fi) (aa (ae 0) ah)))) (gc (cv (ai (af (tab n) fk) (aa (ae 0) ah))))) (a6 0)) (fm ah)))))
def Fq(n:Nat)(ds:List D):af (tab (n+1)) ik ds=df (ff n (bq [true] ds++bE (1 - ds.length) .no)):=c6 (by kernel_rfl) (by decide+kernel) rfl ds
def jr(n:Nat):En->Out:=(ao (i9 (vc (gc (cv (g1 (ba "tuple") (ae 0)))) (vc (g2 fx (g1 bu (ae 0)) (gC (.int 2))) (vc (gc (cv (g1 (ba "tuple") (g2 aj (ae 0) (gC (.int 0)))))) (g2 Ef (g1 bu (g2 aj (ae 0) (gC (.int 0)))) (gC (.int 4)))))) (bw (gC (.bl false))) cn)
 (ao (i9 (vc (gc (cv (g1 (ba "tuple") (g2 aj (ae 0) (gC (.int 1)))))) (vc (g2 Eh (g1 bu (g2 aj (ae 0) (gC (.int 1)))) (gC (.int 1))) (g2 Ef (g1 bu (g2 aj (ae 0) (gC (.int 1)))) (gC (.int 6))))) (bw (gC (.bl false))) cn)
 (ao (yx 1)
 (ao (iz 2 (fm ah))
 (ao (c7 (ar 3) (a7 (g2 aj (ae 0) (gC (.int 1)))) (ao (i9 (vc (gc (cv (ai (af (tab n) ik) (aa (ae 3) ah)))) (g2 fx (km (ae 1) (g2 aj (ae 3) (gC (.int 0))) (g1 bu (g2 aj (ae 3) (gC (.int 1))))) (g1 bu (g2 aj (ae 3) (gC (.int 1)))))) (bw (gC (.bl false))) cn)
 (ao (Ao 1 (g2 aj (ae 3) (gC (.int 0))) (g1 bu (g2 aj (ae 3) (gC (.int 1)))))
 (fz [4] (yw 2 (b9 (a7 (g2 aj (ae 3) (gC (.int 1)))) [] (cv (g1 (ba "str") (ae 0))) (a6 0)))))))
 (ao (c7 (ar 4) (a7 (g2 aj (ae 0) (gC (.int 0)))) (i9 (vc (ie (gc (cv (ai (af (tab n) fi) (aa (ae 4) ah)))) (gc (cv (ai (af (tab n) fk) (aa (ae 4) ah))))) (ie (cv (g1 (ba "str") (ae 4))) (g2 b0 (ae 4) (ae 2)))) (bw (gC (.bl false))) cn))
 (bw (gC (.bl true)))))))))
def sr(n:Nat)(ds:List D):af (tab (n+1)) cx ds=df (jr n (bq [true] ds++bE (5 - ds.length) .no)):=c6 (by kernel_rfl) (by decide+kernel) rfl ds
def HV(n:Nat):En->Out:=(ao (bx 1 (ai (af (tab n) f7) (aa (ae 0) (aa (gC (.int 0)) (aa (gC (.int 3)) ah)))))
 (ao (bx 2 (ai (af (tab n) ly) (aa (ae 0) (aa (ae 1) ah))))
 (ao (bx 3 (ai (af (tab n) nc) (aa (ae 0) (aa (gC (.int 100)) (aa (gC (.int 9)) ah)))))
 (ao (bx 4 (ai (af (tab n) gm) (aa (ae 1) (aa (ae 3) ah))))
 (ao (bx 5 (ai (af (tab n) gm) (aa (ae 2) (aa (ae 3) ah))))
 (ao (fz [1,2] (bx 6 (g2 dj (g2 aj (ai (af (tab n) ic) (aa (a6 1) (aa (a6 2) ah))) (gC (.int 0))) (gC (.str "way")))))
 (ao (fz [2,1] (bx 7 (g2 dj (g2 aj (ai (af (tab n) ic) (aa (a6 2) (aa (a6 1) ah))) (gC (.int 0))) (gC (.str "way")))))
 (ao (i9 (ie (cv (ae 6)) (g2 fx (b9 (a7 (ae 4)) [5] (g2 b0 (ae 0) (ae 1)) (a6 0)) (fm ah))) (bw (gC (.bl false))) cn)
 (ao (i9 (ie (cv (ae 7)) (g2 fx (b9 (a7 (ae 5)) [4] (g2 b0 (ae 0) (ae 1)) (a6 0)) (fm ah))) (bw (gC (.bl false))) cn)
 (ao (fz [1,2] (bx 8 (ai (af (tab n) u0) (aa (a6 1) (aa (a6 2) ah)))))
 (ao (i9 (vc (gc (cv (g1 (ba "bool") (ae 8)))) (g2 fx (ae 8) (ie (a6 6) (a6 7)))) (bw (gC (.bl false))) cn)
 (ao (fz [1,1,1,1] (i9 (vc (g2 fo (ai (af (tab n) u0) (aa (a6 1) (aa (a6 1) ah))) (gC (.bl true))) (g2 fx (g2 aj (ai (af (tab n) ic) (aa (a6 1) (aa (a6 1) ah))) (gC (.int 0))) (gC (.str "way")))) (bw (gC (.bl false))) cn))
 (ao (bx 9 (iu (aa (g2 aj (ae 1) (gC (.int 0))) (aa (M5 (g2 aj (ae 1) (gC (.int 1))) (some (gC (.int 1))) none) ah))))
 (fz [1,9] (bw (vc (gc (ai (af (tab n) cx) (aa (ae 9) ah))) (g2 dj (g2 aj (ai (af (tab n) ic) (aa (a6 1) (aa (a6 9) ah))) (gC (.int 0))) (gC (.str "way")))))))))))))))))))
def QU(n:Nat)(ds:List D):af (tab (n+1)) ug ds=df (HV n (bq [false] ds++bE (10 - ds.length) .no)):=c6 (by kernel_rfl) (by decide+kernel) rfl ds
end LK
end
section
namespace LK
open PySem PySem.Spec PyProof.Rows Pu
abbrev kf(ns:List Int):D:=.lst (ns.map D.int)
def Vl(ns:List Int)(k:Int):Int:=if k<ns.length then(ns[k.toNat]?).getD 0 else if ns=[]then 0 else(ns[(k % ns.length).toNat]?).getD 0 * 31+k
theorem sk:∀ns:List Int,fb (ns.map D.int)=some (ns.map eC)
 |[]=>rfl
 |n::ns=>by show(match fq (.int n)with|some p=>(match fb (ns.map D.int)with|some ps=>some (p::ps)|none=>none)|none=>none)=_;rw[sk ns];rfl
theorem f6:∀ns:List Int,bC (ns.map eC)=true
 |[]=>rfl
 |n::ns=>by show(eF (.int n) && bC (ns.map eC))=true;rw[f6 ns];rfl
theorem wx:∀ns:List Int,cI (ns.map eC)<=1
 |[]=>by decide
 |n::ns=>by
  show max (jF (.int n)) (cI (ns.map eC))<=1;have:=wx ns;have h:jF (.int n)<=1:=cT _
  lia
def Mj(ns:List Int):cU (.list (ns.map eC))=true:=by
 unfold cU;have h1:eF (.list (ns.map eC))=true:=f6 ns;have h2:jF (.list (ns.map eC))<=2:=by
  have:=wx ns;show cI (ns.map eC)+1<=2
  lia
 rw[h1];simp only[gN,decide_eq_true_eq]
 lia
def V2(ns:List Int):dj (kf ns) (.lst [])=some (.bl (decide (ns=[]))):=by
 unfold dj S5 kf;have e1:fq (.lst (ns.map D.int))=some (.list (ns.map eC)):=by unfold fq;rw[sk]
 have e2:fq (.lst [])=some (.list []):=rfl;rw[e1,e2];dsimp only;rw[Mj,show cU (.list [])=true from by decide];cases ns<;>rfl
def Wv(ns:List Int)(k:Int)(h0:0<=k)(h1:k<ns.length):aj (kf ns) (.int k)=some (.int ((ns[k.toNat]?).getD 0)):=by
 show L2.atI (ns.map D.int) k=_;have hk:k=((k.toNat:Nat):Int):=by lia
 have hl:k.toNat<ns.length:=by lia
 rw[hk];refine(L2.xu (j:=k.toNat) (v:=D.int ((ns[k.toNat]?).getD 0)) ?_).trans (by rw[<-hk]);rw[bN,bP hl];rfl
def AF(n:Nat)(ns:List Int)(k:Int)(hk:0<=k):af (tab (n+1)) lh [kf ns,.int k]=.ok (.int (Vl ns k)):=by
 rw[Fp];unfold Vl
 by_cases h1:k<ns.length
 ·have e1:=Wv ns k hk h1;simp[k9,h1,e1]
 ·by_cases h2:ns=[]
  ·subst h2;have e2:=V2 [];have h3:¬k<0:=by lia
   simp[k9,h3,e2]
  ·have hp:0<ns.length:=by cases ns<;>simp_all
   have hm1:0<=k % (ns.length:Int):=pA _ (by lia);have hm2:k % (ns.length:Int)<ns.length:=nD _ (by lia);have e1:=Wv ns (k % ns.length) hm1 hm2;have e2:=V2 ns;have e3:=Mw k ns.length (by lia);have e4:=λa=>Fg a 31 (.inr (by decide));simp[k9,h1,h2,e1,e2,e3,e4]
def jl(ns:List Int)(k m:Int):Int:=
 let x:=(Vl ns k+7919 * k+1) * 48271 % 2147483647
 (x * x+7 * x+k) % 2147483629 % m
def ig(n:Nat)(ns:List Int)(k m:Int)(hk:0<=k)(hm:0<m):af (tab (n+2)) az [kf ns,.int k,.int m]=.ok (.int (jl ns k m)):=by
 rw[Kq];have e0:=AF n ns k hk;have e1:=Fg 7919 k (.inl (by decide));have e2:=λa=>Fg a 48271 (.inr (by decide));have e3:=λa=>Mw a 2147483647 (by decide);have e4:=λa=>Mw a 2147483629 (by decide);have e5:=λa=>Mw a m hm;have e6:=λa=>Fg 7 a (.inl (by decide));have e7:∀a:Int,jm (.int (a % 2147483647)) (.int (a % 2147483647))=some (.int (a % 2147483647 * (a % 2147483647))):=λa=>Fg _ _ (.inl (by lia));simp[Aw,e0,e1,e2,e3,e4,e5,e6,e7,jl]
def d8(ns:List Int)(k m:Int)(hm:0<m):0<=jl ns k m/\jl ns k m<m:=⟨pA _ (by lia),nD _ hm⟩
inductive Tm where
 |s (x:Str)
 |i (z:Int)
 deriving DecidableEq
def Tm.D:Tm->Pu.D
 |.s x=>.str x
 |.i z=>.int z
def zg:List Str:=["x","y","z","u","v","vv"]
def Tm.ok:Tm->Prop
 |.s x=>x∈zg
 |.i z=>z=-1\/z=0
def Zo(r:Int):Tm:=if r=0\/r=5 then .s "x" else if r=1\/r=6 then .s "y" else if r=2\/r=7 then .s "z" else if r=3\/r=8 then .s "u" else if r=4 then .s "v" else if r=9 then .s "vv" else if r=10 then .i (-1)else .i 0
def GX(n:Nat)(ns:List Int)(k:Int)(hk:0<=k):af (tab (n+3)) ni [kf ns,.int k]=.ok (Zo (jl ns k 12)).D:=by
 rw[Nv];have e0:=ig n ns k 12 hk (by decide);obtain⟨h0,h1⟩:=d8 ns k 12 (by decide);generalize jl ns k 12=r at e0 h0 h1⊢;have:r=0\/r=1\/r=2\/r=3\/r=4\/r=5\/r=6\/r=7\/r=8\/r=9\/r=10\/r=11:=by lia
 rcases this with rfl|rfl|rfl|rfl|rfl|rfl|rfl|rfl|rfl|rfl|rfl|rfl
 all_goals simp[C3,e0]
 all_goals rfl
structure At where
 nm:Str
 ts:List Tm
 deriving DecidableEq
def At.D(a:At):Pu.D:=.tup [.str a.nm,.tup (a.ts.map Tm.D)]
theorem yc:∀(l:List Nat),(∀j∈l,h (.int (0+(j:Int)))=some (f j))->(l.map λ(i:Nat)=>Pu.D.int (0+(i:Int))).filterMap h=l.map f
 |[],_=>rfl
 |a::l,hf=>by
  rw[aG,dE,hf a aI];dsimp only;rw[yc l λj hj=>hf j (aE _ hj),aG]
def Bz(n:Nat)(hf:∀j:Nat,j<n->h (.int (0+(j:Int)))=some (f j)):(i8 0 n).filterMap h=(bT n).map f:=
 yc _ λj hj=>hf j (List.mem_range.mp hj)
def Oz(n:Nat):(i8 0 n).length=n:=by unfold i8;simp
def Oi(h:d∈i8 0 n):∃j:Nat,j<n/\d=.int (0+(j:Int)):=by
 unfold i8 at h;obtain⟨j,hj,e⟩:=List.mem_map.mp h;exact⟨j,List.mem_range.mp hj,e.symm⟩
def wt(hr:r W=.ok (i8 0 m))(hm:m<=16777216)(hf:∀j:Nat,j<m->g (cc ix W (.pu (.int (0+(j:Int)))))=.ok (f j)):
  b9 r ix (gC (.bl true)) g W=.ok (.lst ((bT m).map f)):=by
 let h:Pu.D->Option Pu.D:=λd=>match d with
  |.int k=>some (f k.toNat)
  |_=>none
 have:=Dl (r:=r) (ix:=ix) (t:=gC (.bl true)) (g:=g) (W:=W) (h:=h) hr (by rw[Oz];exact hm) λd hd=>by
  obtain⟨j,hj,rfl⟩:=Oi hd;rw[Zu (hf j hj)];show some (some (f j))=some (some (f (0+(j:Int)).toNat));have:(0+(j:Int)).toNat=j:=by lia
  rw[this]
 rw[this,Bz m (f:=f)];intro j hj;show some (f (0+(j:Int)).toNat)=some (f j);have:(0+(j:Int)).toNat=j:=by lia
 rw[this]
def H9(r:Int):Str:=if r=0 then "r" else if r=1 then "s" else "t"
def AL(r:Int):Nat:=if r=0 then 2 else if r=1 then 3 else 1
def Cw(ns:List Int)(k:Int):At:=⟨H9 (jl ns k 3),(bT (AL (jl ns k 3))).map λ(j:Nat)=>Zo (jl ns (k+1+(j:Int)) 12)⟩
def P4(n:Nat)(ns:List Int)(k:Int)(hk:0<=k):af (tab (n+4)) i4 [kf ns,.int k]=.ok (Cw ns k).D:=by
 rw[Nr];have e0:=ig (n+1) ns k 3 hk (by decide);obtain⟨h0,h1⟩:=d8 ns k 3 (by decide);unfold Cw;generalize jl ns k 3=r at e0 h0 h1⊢;have key:∀(m:Nat)(nm:Pu.D),m<=3->b9 (ir (aa (ae 3) ah)) [1,0] (gC (.bl true)) (ai (af (tab (n+3)) ni) (aa (ae 2) (aa (g2 a9 (g2 a9 (ae 1) (gC (.int 1))) (ae 0)) ah))) [.bo (kf ns),.bo (.int k),.pu nm,.pu (.int (m:Nat))]
   =.ok (.lst ((bT m).map λ(j:Nat)=>(Zo (jl ns (k+1+(j:Int)) 12)).D)):=λm nm hm=>by
  refine wt (rg _ _ (j':=(m:Int)) (by simp) (by lia)) (by lia) λj hj=>?_;have e:=GX n ns (k+1+(j:Int)) (by lia);simp[cc,e]
 have:r=0\/r=1\/r=2:=by lia
 have x1:jd (.lst [.str "t",.str "r",.str "s"]) (.str "r")=some (.int 1):=by kernel_rfl
 have x2:jd (.lst [.str "t",.str "r",.str "s"]) (.str "s")=some (.int 2):=by kernel_rfl
 have x3:jd (.lst [.str "t",.str "r",.str "s"]) (.str "t")=some (.int 0):=by kernel_rfl
 have y1:aj (.lst [.str "r",.str "s",.str "t"]) (.int 0)=some (.str "r"):=rfl;have y2:aj (.lst [.str "r",.str "s",.str "t"]) (.int 1)=some (.str "s"):=rfl;have y3:aj (.lst [.str "r",.str "s",.str "t"]) (.int 2)=some (.str "t"):=rfl;rcases this with rfl|rfl|rfl
 ·have k2:=key 2 (.str "r") (by decide);simp only[nH]at k2;simp[ri,e0,x1,y1,k2,At.D,H9,AL]
 ·have k2:=key 3 (.str "s") (by decide);simp only[nH]at k2;simp[ri,e0,x2,y2,k2,At.D,H9,AL]
 ·have k2:=key 1 (.str "t") (by decide);simp only[nH]at k2;simp[ri,e0,x3,y3,k2,At.D,H9,AL]
def AY(h:x∈zg):bO x=true:=by
 unfold zg at h;simp only[cR,fE,or_false]at h;rcases h with rfl|rfl|rfl|rfl|rfl|rfl<;>decide+kernel
def GU(r:Int):(Zo r).ok:=by
 unfold Zo
 repeat' split
 all_goals first
  |exact Or.inl rfl
  |exact Or.inr rfl
  |(show _∈zg;decide+kernel)
def At.ok(a:At):Prop:=((a.nm="r"/\a.ts.length=2)\/(a.nm="s"/\a.ts.length=3)\/(a.nm="t"/\a.ts.length=1))/\∀t∈a.ts,t.ok
def P2(ns:List Int)(k:Int):(Cw ns k).ok:=by
 obtain⟨h0,h1⟩:=d8 ns k 3 (by decide);unfold Cw At.ok;dsimp only;refine⟨?_,λt ht=>?_⟩
 ·rw[aF,eL];have:jl ns k 3=0\/jl ns k 3=1\/jl ns k 3=2:=by lia
  rcases this with e|e|e<;>rw[e]
  ·exact .inl ⟨rfl,rfl⟩
  ·exact .inr (.inl ⟨rfl,rfl⟩)
  ·exact .inr (.inr ⟨rfl,rfl⟩)
 ·obtain⟨j,_,e⟩:=List.mem_map.mp ht;rw[<-e];exact GU _
def lu(ts:List Tm):List Str:=ts.filterMap λt=>match t with
 |.s x=>some x
 |.i _=>none
def bc(as:List At):List Str:=as.flatMap λa=>lu a.ts
def c8(hd:List Tm)(as:List At):Pu.D:=.tup [.tup (hd.map Tm.D),.tup (as.map At.D)]
def J2:Pu.D->Option Pu.D
 |.str x=>some (.str x)
 |_=>none
theorem Pf:∀ts:List Tm,(ts.map Tm.D).filterMap J2=(lu ts).map Pu.D.str
 |[]=>rfl
 |.s x::ts=>by
  rw[aG,dE];show Pu.D.str x::(ts.map Tm.D).filterMap J2=Pu.D.str x::(lu ts).map Pu.D.str;rw[Pf ts]
 |.i z::ts=>by
  rw[aG,dE];exact Pf ts
def Gd{ts:List Tm}(hr:r W=.ok (ts.map Tm.D))(hl:ts.length<=1000):b9 r [] (cv (g1 (ba "str") (ae 0))) (a6 0) W=.ok (.lst ((lu ts).map Pu.D.str)):=by
 rw[Dl (h:=J2) hr (by rw[aF];show _<=16777216;lia) λd hd=>by
  obtain⟨t,_,rfl⟩:=List.mem_map.mp hd;cases t with
  |s x=>rw[zd (b:=true) (y:=.str x) (by simp[cc,Tm.D]) (by simp[cc,Tm.D])];rfl
  |i z=>rw[zd (b:=false) (y:=.non) (by simp[cc,Tm.D]) (by simp)];rfl,Pf]
structure Drawn(hd:List Tm)(as:List At):Prop where
 len:1<=as.length/\as.length<=4
 ok:∀a∈as,a.ok
 hl:hd.length<=2
 ho:∀t∈hd,(∃z,t=.i z/\(z=0\/z=1))\/∃x,t=.s x/\x∈bc as
def Pd(h:∀t∈ts,t.ok):∀x∈lu ts,x∈zg:=λx hx=>by
 unfold lu at hx;obtain⟨t,ht,e⟩:=List.mem_filterMap.mp hx;cases t with
 |s y=>cases e;exact h _ ht
 |i z=>cases e
def Bl(h:∀a∈as,a.ok):∀x∈bc as,x∈zg:=λx hx=>by
 obtain⟨a,ha,hx⟩:=List.mem_flatMap.mp hx;exact Pd (h a ha).2 x hx
def q9(ts:List Tm):(lu ts).length<=ts.length:=iM ..
def Vb{a:At}(h:a.ok):1<=a.ts.length/\a.ts.length<=3:=by
 rcases h.1 with ⟨_,e⟩|⟨_,e⟩|⟨_,e⟩<;>lia
def Oc(as:List At)(h:∀a∈as,a.ok)(hl:as.length<=1000)(v0 v1 v2 v3 v4 v6 v7:Sl):
  ∃w6,turns (ar 6) (yw 5 (b9 (a7 (g2 aj (ae 6) (gC (.int 1)))) [] (cv (g1 (ba "str") (ae 0))) (a6 0))) (as.map At.D) [v0,v1,v2,v3,v4,.ow [],v6,v7]=.nx [v0,v1,v2,v3,v4,.ow ((bc as).map Pu.D.str),w6,v7]:=by
 have key:∀(l:List At)(pre:List Str)(w6:Sl),(∀a∈l,a.ok)->pre.length+3 * l.length<=4000->∃w6',turns (ar 6) (yw 5 (b9 (a7 (g2 aj (ae 6) (gC (.int 1)))) [] (cv (g1 (ba "str") (ae 0))) (a6 0))) (l.map At.D) [v0,v1,v2,v3,v4,.ow (pre.map Pu.D.str),w6,v7]
   =.nx [v0,v1,v2,v3,v4,.ow ((pre++bc l).map Pu.D.str),w6',v7]:=by
  intro l;induction l with
  |nil=>intro pre w6 _ _;exact⟨w6,by simp[turns,bc]⟩
  |cons a l ih=>
   intro pre w6 hok hlen;have ha:=Vb (hok a aI);have hs:=q9 a.ts;rw[aL]at hlen;obtain⟨w6',e⟩:=ih (pre++lu a.ts) (.pu a.D) (λb hb=>hok b (aE _ hb)) (by rw[aU];lia);refine⟨w6',?_⟩;rw[aG,b8 (δ1:=[v0,v1,v2,v3,v4,.ow (pre.map Pu.D.str),.pu a.D,v7]) rfl];have hc:=Gd (r:=a7 (g2 aj (ae 6) (gC (.int 1)))) (W:=[v0,v1,v2,v3,v4,.ow (pre.map Pu.D.str),.pu a.D,v7]) (ts:=a.ts) (by simp[At.D]) (by lia);have hle:pre.length+(lu a.ts).length<=16777216:=by lia
   simp only[SE,hc,dU,fU,fj,Uu,aF,hle,if_true,nI,nJ];rw[<-dH,e]
   congr 3
   simp[bc,jU]
 obtain⟨w,e⟩:=key as [] v6 h (by simp;lia);exact⟨w,by simpa using e⟩
def I9{xs:List Pu.D}{k:Int}(h0:0<=k)(h1:k<xs.length):∃d,d∈xs/\aj (.lst xs) (.int k)=some d:=by
 have hl:k.toNat<xs.length:=by lia
 refine⟨xs[k.toNat],kK hl,?_⟩;show L2.atI xs k=_;have hk:((k.toNat:Nat):Int)=k:=by lia
 have e:=L2.xu (bP hl);rwa [hk]at e
def Gn(n:Nat):En->Out:=(i9 (vc (g2 dj (ae 5) (fm ah)) (g2 dj (ai (af (tab n) az) (aa (ae 0) (aa (g2 a9 (g2 a9 (ae 1) (gC (.int 32))) (ae 3)) (aa (gC (.int 8)) ah)))) (gC (.int 0)))) (qu 7 (ai (af (tab n) az) (aa (ae 0) (aa (g2 a9 (g2 a9 (ae 1) (gC (.int 34))) (ae 3)) (aa (gC (.int 2)) ah))))) (qu 7 (g2 aj (ae 5) (ai (af (tab n) az) (aa (ae 0) (aa (g2 a9 (g2 a9 (ae 1) (gC (.int 34))) (ae 3)) (aa (g1 bu (ae 5)) ah)))))))
def Hv(kn:List Str)(t:Tm):Prop:=(∃z,t=.i z/\(z=0\/z=1))\/∃x,t=.s x/\x∈kn
def S7(n:Nat)(ns:List Int)(k:Int)(hk:0<=k)(kn:List Str)(hkn:∀x∈kn,x∈zg)(v2 v4 v6:Sl):∀(l:List Int)(v3:Sl)(hd:List Tm),(∀i∈l,0<=i)->(∀t∈hd,Hv kn t)->hd.length+l.length<=1000->
  ∃(w3:Sl) (hd':List Tm),(∀t∈hd',Hv kn t)/\hd'.length=hd.length+l.length/\turns (ar 3) (Gn (n+2)) (l.map Pu.D.int) [.bo (kf ns),.bo (.int k),v2,v3,v4,.ow (kn.map Pu.D.str),v6,.ow (hd.map Tm.D)]=.nx [.bo (kf ns),.bo (.int k),v2,w3,v4,.ow (kn.map Pu.D.str),v6,.ow (hd'.map Tm.D)]:=by
 intro l;induction l with
 |nil=>intro v3 hd _ h _;exact⟨v3,hd,h,by simp,rfl⟩
 |cons i l ih=>
  intro v3 hd hnn h hlen;have hi:0<=i:=hnn i aI;rw[aL]at hlen;have step:∃t,Hv kn t/\Gn (n+2) [.bo (kf ns),.bo (.int k),v2,.pu (.int i),v4,.ow (kn.map Pu.D.str),v6,.ow (hd.map Tm.D)]=.nx [.bo (kf ns),.bo (.int k),v2,.pu (.int i),v4,.ow (kn.map Pu.D.str),v6,.ow (hd.map Tm.D++[t.D])]:=by
   have hsm:AM (kn.map Pu.D.str):=NR λd hd=>by
    obtain⟨x,hx,rfl⟩:=List.mem_map.mp hd;exact Ru (AY (hkn x hx))
   have e1:=(Qh hsm).1;have hlt:hd.length<16777216:=by lia
   have m8:=ig n ns (k+32+i) 8 (by lia) (by decide);have m2:=ig n ns (k+34+i) 2 (by lia) (by decide);obtain⟨r0,r1⟩:=d8 ns (k+34+i) 2 (by decide);have t2:Hv kn (.i (jl ns (k+34+i) 2)):=.inl ⟨_,rfl,by lia⟩;cases hn:kn with
   |nil=>
    subst hn;refine⟨_,t2,?_⟩;simp only[jB,oM]at e1;simp[Gn,e1,m2,hlt,Tm.D]
   |cons x r=>
    rw[<-hn];have hne:(kn.map Pu.D.str).isEmpty=false:=by rw[hn];rfl
    rw[hne]at e1
    by_cases h8:jl ns (k+32+i) 8=0
    ·refine⟨_,t2,?_⟩;rw[h8]at m8;simp[Gn,e1,m2,m8,hlt,Tm.D]
    ·have hpos:0<(kn.length:Int):=by rw[hn];simp
     have mk:=ig n ns (k+34+i) kn.length (by lia) hpos;obtain⟨q0,q1⟩:=d8 ns (k+34+i) kn.length hpos;obtain⟨d,hd1,hd2⟩:=I9 (xs:=kn.map Pu.D.str) q0 (by rw[aF];exact q1);obtain⟨y,hy,rfl⟩:=List.mem_map.mp hd1;refine⟨.s y,.inr ⟨y,rfl,hy⟩,?_⟩;have h8':(jl ns (k+32+i) 8==0)=false:=by simpa using h8
     simp[Gn,e1,m8,mk,hd2,hlt,Tm.D,h8']
  obtain⟨t,ht,e⟩:=step;obtain⟨w3,hd',a1,a2,a3⟩:=ih (.pu (.int i)) (hd++[t]) (λj hj=>hnn j (aE _ hj)) (λs hs=>by
   rcases List.mem_append.mp hs with hs|hs
   ·exact h s hs
   ·rw[List.mem_singleton.mp hs];exact ht) (by rw[aU];simp;lia)
  refine⟨w3,hd',a1,by rw[a2];simp;lia,?_⟩;rw[aG,b8 (δ1:=[.bo (kf ns),.bo (.int k),v2,.pu (.int i),v4,.ow (kn.map Pu.D.str),v6,.ow (hd.map Tm.D)]) rfl,e];dsimp only;rw[<-a3];simp
def k7(m:Nat):List Int:=(bT m).map λ(i:Nat)=>0+(i:Int)
def Mf(m:Nat):i8 0 m=(k7 m).map Pu.D.int:=by unfold i8 k7;rw[bV];rfl
def Hi(h:i∈k7 m):0<=i/\i<m:=by
 unfold k7 at h;obtain⟨j,hj,rfl⟩:=List.mem_map.mp h;have:=List.mem_range.mp hj
 lia
def F4(n:Nat)(ns:List Int)(k m:Int)(hk:0<=k)(hm:0<m)(hm5:m<=4):∃hd as,Drawn hd as/\af (tab (n+5)) f7 [kf ns,.int k,.int m]=.ok (c8 hd as):=by
 rw[Im];have e0:=ig (n+2) ns (k+30) m (by lia) hm;obtain⟨r0,r1⟩:=d8 ns (k+30) m hm;have e1:=ig (n+2) ns (k+31) 3 (by lia) (by decide);obtain⟨q0,q1⟩:=d8 ns (k+31) 3 (by decide);generalize jl ns (k+30) m=r at e0 r0 r1;generalize jl ns (k+31) 3=q at e1 q0 q1;have hat:b9 (ir (aa (g2 a9 (gC (.int 1)) (ai (af (tab (n+4)) az) (aa (ae 0) (aa (g2 a9 (ae 1) (gC (.int 30))) (aa (ae 2) ah))))) ah)) [1,0] (gC (.bl true)) (ai (af (tab (n+4)) i4) (aa (ae 2) (aa (g2 a9 (ae 1) (g2 jm (gC (.int 4)) (ae 0))) ah)))
   [.bo (kf ns),.bo (.int k),.bo (.int m),.no,.no,.no,.no,.no]=.ok (.lst ((bT (1+r).toNat).map λ(j:Nat)=>(Cw ns (k+4 * (0+(j:Int)))).D)):=by
  refine wt (rg _ _ (j':=1+r) (by simp[e0]) (by lia)) (by lia) λj hj=>?_;have ea:=P4 n ns (k+4 * (0+(j:Int))) (by lia);have em:=λa=>Fg 4 a (.inl (by decide));generalize (0+(j:Int))=z at ea⊢;simp[cc,em,ea]
 have hmap:((bT (1+r).toNat).map λ(j:Nat)=>(Cw ns (k+4 * (0+(j:Int)))).D)=((bT (1+r).toNat).map λ(j:Nat)=>Cw ns (k+4 * (0+(j:Int)))).map At.D:=by rw[bV];rfl
 rw[hmap]at hat;have hasl:((bT (1+r).toNat).map λ(j:Nat)=>Cw ns (k+4 * (0+(j:Int)))).length=(1+r).toNat:=by simp
 have haso:∀a∈((bT (1+r).toNat).map λ(j:Nat)=>Cw ns (k+4 * (0+(j:Int)))),a.ok:=λa ha=>by
  obtain⟨j,_,rfl⟩:=List.mem_map.mp ha;exact P2 _ _
 generalize ((bT (1+r).toNat).map λ(j:Nat)=>Cw ns (k+4 * (0+(j:Int))))=as at hat hasl haso;obtain⟨w6,ek⟩:=Oc as haso (by lia) (.bo (kf ns)) (.bo (.int k)) (.bo (.int m)) .no (.pu (.tup (as.map At.D))) .no .no;obtain⟨w3,hd,h1,h2,h3⟩:=S7 (n+2) ns k hk (bc as) (Bl haso) (.bo (.int m)) (.pu (.tup (as.map At.D))) w6 (k7 q.toNat) .no [] (λi hi=>(Hi hi).1) (by simp) (by simp[k7];lia);have hr:=rg [.bo (kf ns),.bo (.int k),.bo (.int m),.no,.pu (.tup (as.map At.D)),.ow ((bc as).map Pu.D.str),w6,.ow []] (aa (ai (af (tab (n+4)) az) (aa (ae 0) (aa (g2 a9 (ae 1) (gC (.int 31))) (aa (gC (.int 3)) ah)))) ah) (j':=q) (by simp[e1]) (by lia);rw[Mf]at hr;refine⟨hd,as,⟨by lia,haso,by rw[h2];simp[k7];lia,h1⟩,?_⟩;unfold Gn at h3;simp only[jB]at h3;simp only[xw,Ut,Mv,mB,fJ,aL,eZ,bE,gy,Z3,OZ,hat,Ho,Uv,Hq,fj,nI,nJ,Z4,TY,Zz,cT,if_true,NA,Zy,SD,dU,fU];rw[cu (ds:=as.map At.D) (by simp),ek];simp only[nI,nJ];rw[cu hr,h3];simp[c8]
end LK
end
section
namespace Pu
open PySem PySem.Spec PyProof.Rows
theorem Kl:∀(l:List α),(∀a∈l,F (f a)=some (if b a then some (f' a)else none))->lx F (l.map f)=some ((l.filter b).map f')
 |[],_=>rfl
 |a::l,h=>by
  rw[aG];unfold lx;rw[h a aI,Kl l λc hc=>h c (aE _ hc),List.filter_cons];cases b a<;>rfl
def Qa{l:List α}(hr:r W=.ok (l.map f))(hl:l.length<=16777216)(ht:∀a∈l,t (cc ix W (.pu (f a)))=.ok (.bl (b a)))(hg:∀a∈l,g (cc ix W (.pu (f a)))=.ok (f' a)):
  b9 r ix t g W=.ok (.lst ((l.filter b).map f')):=by
 unfold b9;rw[hr];dsimp only;rw[aJ (by rw[aF];exact hl),Kl (b:=b) (f':=f') l λa ha=>by
  rw[zd (b:=b a) (y:=f' a) (ht a ha) λ_=>hg a ha]]
def A4{l:List α}(hr:r W=.ok (l.map f))(hl:l.length<=16777216)(ht:∀a∈l,t (cc ix W (.pu (f a)))=.ok (.bl (b a))):
  b9 r ix t (a6 0) W=.ok (.lst ((l.filter b).map f)):=Qa hr hl ht λa _=>rfl
def m9{l:List α}(hr:r W=.ok (l.map f))(hl:l.length<=16777216)(hg:∀a∈l,g (cc ix W (.pu (f a)))=.ok (f' a)):
  b9 r ix (gC (.bl true)) g W=.ok (.lst (l.map f')):=by
 have:=Qa (b:=λ_=>true) (t:=gC (.bl true)) hr hl (λ_ _=>rfl) hg;rwa [List.filter_eq_self.mpr (λ_ _=>rfl)]at this
theorem A0(b:α->Bool):∀l:List α,ml (l.map λa=>D.bl (b a))=some (l.map b)
 |[]=>rfl
 |a::l=>by
  show(ml (l.map λa=>D.bl (b a))).map (b a::·)=_;rw[A0 b l];rfl
def Py(b:α->Bool)(l:List α):Bi (.lst (l.map λa=>D.bl (b a)))=some (.bl (l.all b)):=by
 unfold Bi;dsimp only;rw[A0];show some (D.bl ((l.map b).all id))=_;rw[List.all_map];rfl
end Pu
end
section
namespace LK
open PySem PySem.Spec PyProof.Rows Pu
def good:List Str:=["x","y","z","u","v","vv","r","s","t","w","ww","www","wwww","wwwww","wwwwww"]
def UT:List Str:=[]
def J7(x:Str):Prop:=x∈good\/x∈UT
def Al(x:Str):Bool:=decide (x∈good)
def GE(n:Nat)(h:J7 x):af (tab (n+1)) mw [.str x]=.ok (.bl (Al x)):=by
 rw[mz];unfold J7 good UT at h;simp only[cR,fE,or_false]at h;rcases h with rfl|rfl|rfl|rfl|rfl|rfl|rfl|rfl|rfl|rfl|rfl|rfl|rfl|rfl|rfl<;>kernel_rfl
def CC(n:Nat)(h:J7 x):af (tab (n+1)) fk [.str x]=.ok (.bl (Al x)):=by
 rw[ky];unfold J7 good UT at h;simp only[cR,fE,or_false]at h;rcases h with rfl|rfl|rfl|rfl|rfl|rfl|rfl|rfl|rfl|rfl|rfl|rfl|rfl|rfl|rfl<;>kernel_rfl
inductive T0:Pu.D->Prop where
 |str {x:Str} (h:J7 x):T0 (.str x)
 |int (i:Int):T0 (.int i)
 |bl (b:Bool):T0 (.bl b)
 |non:T0 .non
 |tup (ds:List Pu.D):T0 (.tup ds)
 |lst (ds:List Pu.D):T0 (.lst ds)
def om:Pu.D->Bool
 |.str x=>Al x
 |.int _=>true
 |_=>false
def kq:Pu.D->Bool
 |.str x=>Al x
 |_=>false
def xr:Pu.D->Bool
 |.int _=>true
 |_=>false
def Gr(n:Nat)(h:T0 d):af (tab (n+1)) mw [d]=.ok (.bl (kq d)):=by
 cases h with
 |str h=>exact GE n h
 |int i=>rw[mz];simp[mr,kq]
 |bl b=>rw[mz];simp[mr,kq]
 |non=>rw[mz];simp[mr,kq]
 |tup ds=>rw[mz];simp[mr,kq]
 |lst ds=>rw[mz];simp[mr,kq]
def Dz(n:Nat)(h:T0 d):af (tab (n+1)) fk [d]=.ok (.bl (kq d)):=by
 cases h with
 |str h=>exact CC n h
 |int i=>rw[ky];simp[kr,kq]
 |bl b=>rw[ky];simp[kr,kq]
 |non=>rw[ky];simp[kr,kq]
 |tup ds=>rw[ky];simp[kr,kq]
 |lst ds=>rw[ky];simp[kr,kq]
def Wo(n:Nat)(h:T0 d):af (tab (n+1)) oz [d]=.ok (.bl (xr d)):=by
 cases h<;>(rw[Kp];simp[Av,xr])
def G7(n:Nat)(h:T0 d):af (tab (n+1)) fi [d]=.ok (.bl (xr d)):=by
 cases h<;>(rw[Ks];simp[Ay,xr])
def Rz(d:Pu.D):(kq d||xr d)=om d:=by
 cases d<;>simp[kq,xr,om]
def Gq(n:Nat)(h:T0 d):af (tab (n+2)) p9 [d]=.ok (.bl (om d)):=by
 rw[Sv,<-Rz];have h1:=Gr n h;have h2:=Wo n h;cases hw:kq d
 ·rw[hw]at h1;simp[zr,h1,h2]
 ·rw[hw]at h1;simp[zr,h1]
def p6(lo hi:Int)(pB:Pu.D->Bool):Pu.D->Bool
 |.tup xs=>decide (lo<=(xs.length:Int)) && decide ((xs.length:Int)<=hi) && xs.all pB
 |_=>false
def uy(n:Nat){d0:Pu.D}{lo hi:Int}{y:Str}{d:DefR}{pB:Pu.D->Bool}(hd:look Ik y=some d)(hms:d.ms=[true])(ht:T0 d0)(h:∀xs,d0=.tup xs->xs.length<=1000/\∀x∈xs,af (tab n) d [x]=.ok (.bl (pB x))):
  af (tab (n+1)) fh [d0,.int lo,.int hi,.fn y]=.ok (.bl (p6 lo hi pB d0)):=by
 rw[Fm];cases ht with
 |str h=>simp[de,p6]
 |int i=>simp[de,p6]
 |bl b=>simp[de,p6]
 |non=>simp[de,p6]
 |lst ds=>simp[de,p6]
 |tup xs=>
  obtain⟨hl,hx⟩:=h xs rfl;have hc:b9 (a7 (ae 0)) [3] (gC (.bl true)) (Dk (tab (n+1)) 1 [((ae 0),(a6 0))]) [.bo (.tup xs),.bo (.int lo),.bo (.int hi),.bo (.fn y)]=.ok (.lst (xs.map λx=>Pu.D.bl (pB x))):=
   m9 (f:=id) (by simp) (by lia) λx hx'=>by
    have ht:(tab (n+1)).fns y=some ⟨d.ms,af (tab n) d⟩:=Zj n hd;unfold Dk;simp[cc,ht,hms,Y6,hx x hx']
  have ha:=Py pB xs
  by_cases h1:lo<=(xs.length:Int)
  ·by_cases h2:(xs.length:Int)<=hi
   ·simp[de,p6,h1,h2,hc,ha]
   ·simp[de,p6,h1,h2]
  ·simp[de,p6,h1]
def TT(d:Pu.D):Prop:=T0 d/\∀ds,d=.tup ds->ds.length<=1000/\∀x∈ds,T0 x/\PQ x
def AT(d:Pu.D):Prop:=T0 d/\∀ds,d=.tup ds->∀x∈ds,TT x
def kh:Pu.D->Bool
 |.tup [a,b]=>kq a && p6 1 4 om b
 |_=>false
def Rb(n:Nat)(h:T0 d):af (tab (n+1)) jc [d]=.ok (.bl (match d with|.tup ds=>decide ((ds.length:Int)=2)|_=>false)):=by
 rw[Gh];cases h with
 |tup ds=>
  by_cases hl:(ds.length:Int)=2
  ·simp[ja,hl]
  ·simp[ja,hl]
 |str h=>simp[ja]
 |int i=>simp[ja]
 |bl b=>simp[ja]
 |non=>simp[ja]
 |lst ds=>simp[ja]
def T0.tup_or(hd:T0 d):(∃ds,d=.tup ds)\/((∀ds,d≠.tup ds)/\ba "tuple" d=some (.bl false)):=by
 cases hd with
 |tup ds=>exact .inl ⟨ds,rfl⟩
 |str h=>exact .inr ⟨(λ_ z=>nomatch z),GJ _⟩
 |int i=>exact .inr ⟨(λ_ z=>nomatch z),GN _⟩
 |bl b=>exact .inr ⟨(λ_ z=>nomatch z),GO _⟩
 |non=>exact .inr ⟨(λ_ z=>nomatch z),GK⟩
 |lst ds=>exact .inr ⟨(λ_ z=>nomatch z),GM _⟩
def Zp{lo hi:Int}{pB:Pu.D->Bool}{d:Pu.D}(h:∀ds,d≠.tup ds):p6 lo hi pB d=false:=by
 cases d with
 |tup ds=>exact absurd rfl (h ds)
 |_=>rfl
def F5(h:∀ds,d≠.tup ds):kh d=false:=by
 cases d with
 |tup ds=>exact absurd rfl (h ds)
 |_=>rfl
def Xy(n:Nat)(h:T0 d)(hn:∀ds,d≠.tup ds):af (tab (n+1)) jc [d]=.ok (.bl false):=by
 rw[Rb n h];cases d with
 |tup ds=>exact absurd rfl (hn ds)
 |_=>rfl
def Td(n:Nat){d:Pu.D}(h:AT d):af (tab (n+4)) u9 [d]=.ok (.bl (kh d)):=by
 rw[Su];have hp:=Rb (n+2) h.1;rcases h.1.tup_or with ⟨ds,rfl⟩|⟨hn,_⟩
 ·skip
  by_cases hl:ds.length=2
  ·match ds,hl,h with
   |[a,b],_,h=>
    have ha:=h.2 _ rfl a (by simp);have hb:=h.2 _ rfl b (by simp);have e1:=Gr (n+2) ha.1;have e2:=uy (n+2) (lo:=1) (hi:=4) (y:="is_term") (d:=p9) (pB:=om) (by kernel_rfl) rfl hb.1 (λxs hx=>⟨(hb.2 xs hx).1,λx hx'=>Gq n ((hb.2 xs hx).2 x hx').1⟩);have e0:af (tab (n+3)) jc [.tup [a,b]]=.ok (.bl true):=hp;cases hw:kq a
    ·rw[hw]at e1;simp[p7,e0,e1,kh,hw]
    ·rw[hw]at e1;simp[p7,e0,e1,e2,kh,hw]
  ·have hl':¬(ds.length:Int)=2:=by lia
   have e0:af (tab (n+3)) jc [.tup ds]=.ok (.bl false):=by rw[hp];simp[hl']
   have hB:kh (.tup ds)=false:=by
    match ds,hl with
    |[],_=>rfl
    |[_],_=>rfl
    |[_,_],hl=>exact absurd rfl hl
    |_::_::_::_,_=>rfl
   simp[p7,e0,hB]
 ·have e0:=Xy (n+2) h.1 hn;simp[p7,e0,F5 hn]
def Iq(b:α->Bool)(l:List α):(l.filter b).isEmpty=l.all λx=> !b x:=by
 induction l with
 |nil=>rfl
 |cons a l ih=>
  rw[List.filter_cons,cP];cases hb:b a
  ·simpa using ih
  ·simp
def W3(n:Nat){d:Pu.D}(h:AT d):af (tab (n+2)) ik [d]=.ok (.bl (kh d)):=by
 rw[Fq];rcases h.1.tup_or with ⟨ds,rfl⟩|⟨hn,hi⟩
 ·skip
  by_cases hl:ds.length=2
  ·match ds,hl,h with
   |[a,b],_,h=>
    have ha:=h.2 _ rfl a (by simp);have hb:=h.2 _ rfl b (by simp);have e1:=Dz n ha.1;cases hw:kq a
    ·rw[hw]at e1;simp[ff,e1,kh,hw]
    ·rw[hw]at e1;rcases hb.1.tup_or with ⟨xs,rfl⟩|⟨bn,bi⟩
     case inr=>simp[ff,e1,bi,kh,hw,Zp bn]
     case inl=>
      obtain⟨hxl,hx⟩:=hb.2 xs rfl
      by_cases h1:(xs.length:Int)<1
      ·have h1':¬(1:Int)<=(xs.length:Int):=by lia
       simp[ff,e1,kh,hw,p6,h1,h1']
      ·by_cases h2:(4:Int)<(xs.length:Int)
       ·have h2':¬(xs.length:Int)<=4:=by lia
        simp[ff,e1,kh,hw,p6,h1,h2,h2']
       ·have h1':(1:Int)<=(xs.length:Int):=by lia
        have h2':(xs.length:Int)<=4:=by lia
        have hc:∀W:En,W[0]?=some (.bo (.tup [a,.tup xs]))->b9 (a7 (g2 aj (ae 0) (gC (.int 1)))) [] (ie (gc (cv (ai (af (tab (n+1)) fi) (aa (ae 0) ah)))) (gc (cv (ai (af (tab (n+1)) fk) (aa (ae 0) ah))))) (a6 0) W=.ok (.lst ((xs.filter λx=> !om x).map id)):=λW hδ=>
         A4 (f:=id) (by simp[hδ]) (by lia) λx hx'=>by
          have w1:=G7 n (hx x hx').1;have w2:=Dz n (hx x hx').1;rw[<-Rz];cases hh:xr x
          ·rw[hh]at w1;simp[cc,w1,w2]
          ·rw[hh]at w1;simp[cc,w1]
        have hs:AM ((xs.filter λx=> !om x).map id):=NR λd hd=>by
         rw[pK]at hd;exact(hx d (List.mem_filter.mp hd).1).2
        have he:=(Qh hs).1;rw[pK]at he;have hf:=Iq (λx=> !om x) xs;simp only[Bool.not_not]at hf;rw[hf]at he;simp only[pK]at hc;simp[ff,e1,kh,hw,p6,h1,h2,h1',h2',hc,he]
  ·have hl':((ds.length:Int)==2)=false:=beq_eq_false_iff_ne.mpr (by lia);have hB:kh (.tup ds)=false:=by
    match ds,hl with
    |[],_=>rfl
    |[_],_=>rfl
    |[_,_],hl=>exact absurd rfl hl
    |_::_::_::_,_=>rfl
   simp[ff,hl',hB]
 ·simp[ff,hi,F5 hn]
theorem vd:∀{kvs:List (Pu.D×Pu.D)}{j:L2.gi},S6 kvs j=(bg kvs j).isSome
 |[],_=>rfl
 |(k,d)::r,j=>by
  unfold bg
  by_cases h:bz k=some j
  ·rw[aJ h];simp[S6,h]
  ·rw[aK h,<-vd];simp[S6,h]
theorem qp:∀{kvs:List (Pu.D×Pu.D)}{j j':L2.gi}{v:Pu.D},bg kvs j=none->bg (kvs++[(kD j,v)]) j'=if j'=j then some v else bg kvs j'
 |[],j,j',v,_=>by
  show(if bz (kD j)=some j' then some v else none)=_;rw[ui]
  by_cases h:j'=j
  ·subst h;rw[aJ rfl,aJ rfl]
  ·rw[aK (λz=>h (bM z).symm),aK h];rfl
 |(k,d)::r,j,j',v,hn=>by
  unfold bg at hn
  by_cases hk:bz k=some j
  ·rw[aJ hk]at hn;cases hn
  ·rw[aK hk]at hn;show(if bz k=some j' then some d else bg (r++[(kD j,v)]) j')=_;rw[qp hn]
   by_cases h:j'=j
   ·subst h;rw[aK hk,aJ rfl,aJ rfl]
   ·rw[aK h,aK h];rfl
def Jk(h:bg kvs j=none):pv kvs j v=kvs++[(kD j,v)]:=by
 unfold pv;rw[vd,h];rfl
def B2:En->Out:=(Jp (A9 fx (iw 1 (g2 aj (ae 2) (gC (.int 0))) (g1 bu (g2 aj (ae 2) (gC (.int 1))))) (g1 bu (g2 aj (ae 2) (gC (.int 1))))) (bw (gC (.bl false))) cn)
def B4(kvs:List (Pu.D×Pu.D)):List At->Bool
 |[]=>true
 |a::r=>match bg kvs (.inr a.nm)with
  |some (.int k)=>if k=(a.ts.length:Int)then B4 kvs r else false
  |some _=>false
  |none=>B4 (kvs++[(kD (.inr a.nm),.int (a.ts.length:Nat))]) r
def IntV(kvs:List (Pu.D×Pu.D)):Prop:=∀(x:Str) d,bg kvs (.inr x)=some d->∃k:Int,d=.int k
def IntV.snoc(h:IntV kvs)(e:bg kvs (.inr x)=none):IntV (kvs++[(kD (.inr x),.int k)]):=λy d hd=>by
 rw[qp e]at hd;split at hd
 ·cases hd;exact⟨_,rfl⟩
 ·exact h y d hd
def Xo(v0:Sl):∀(as:List At)(kvs:List (Pu.D×Pu.D))(v2:Sl),IntV kvs->kvs.length+as.length<=1000->
  (B4 kvs as=true/\∃kvs' w2,turns (ar 2) B2 (as.map At.D) [v0,.od false kvs,v2]=.nx [v0,.od false kvs',w2])\/(B4 kvs as=false/\turns (ar 2) B2 (as.map At.D) [v0,.od false kvs,v2]=.rt (.bl false)):=by
 intro as;induction as with
 |nil=>intro kvs v2 _ _;exact .inl ⟨rfl,kvs,v2,rfl⟩
 |cons a as ih=>
  intro kvs v2 hv hl;rw[aL]at hl;rw[aG,b8 (δ1:=[v0,.od false kvs,.pu a.D]) rfl];have hlt:kvs.length<aM:=by show _<16777216;lia
  unfold B4;cases e:bg kvs (.inr a.nm)with
  |some d=>
   obtain⟨k,rfl⟩:=hv a.nm d e;have es:iw 1 (g2 aj (ae 2) (gC (.int 0))) (g1 bu (g2 aj (ae 2) (gC (.int 1)))) [v0,.od false kvs,.pu a.D]=.ok (.int k) [v0,.od false kvs,.pu a.D]:=by
    unfold iw;simp[At.D,bz,hlt,e]
   dsimp only
   by_cases hk:k=(a.ts.length:Int)
   ·rw[aJ hk];have eb:B2 [v0,.od false kvs,.pu a.D]=.nx [v0,.od false kvs,.pu a.D]:=by
     unfold B2 Jp A9;rw[es];simp[At.D,Res.ef,hk]
    rw[eb];exact ih kvs (.pu a.D) hv (by lia)
   ·rw[aK hk];have hk':(k==(a.ts.length:Int))=false:=beq_eq_false_iff_ne.mpr hk;have eb:B2 [v0,.od false kvs,.pu a.D]=.rt (.bl false):=by
     unfold B2 Jp A9;rw[es];simp[At.D,Res.ef,hk']
    rw[eb];exact .inr ⟨rfl,rfl⟩
  |none=>
   have es:iw 1 (g2 aj (ae 2) (gC (.int 0))) (g1 bu (g2 aj (ae 2) (gC (.int 1)))) [v0,.od false kvs,.pu a.D]=.ok (.int (a.ts.length:Nat)) [v0,.od false (kvs++[(kD (.inr a.nm),.int (a.ts.length:Nat))]),.pu a.D]:=by
    unfold iw;simp[At.D,bz,hlt,e,Jk e]
   have eb:B2 [v0,.od false kvs,.pu a.D]=.nx [v0,.od false (kvs++[(kD (.inr a.nm),.int (a.ts.length:Nat))]),.pu a.D]:=by
    unfold B2 Jp A9;rw[es];simp[At.D,Res.ef]
   rw[eb];exact ih _ (.pu a.D) (hv.snoc e) (by rw[aU];simp;lia)
def Tt(n:Nat){as:List At}(hl:as.length<=900):af (tab (n+1)) gq [.tup (as.map At.D)]=.ok (.bl (B4 [] as)):=by
 rw[vn];have hs0:c7 (ar 2) (a7 (yd 0)) B2 [.bo (.tup (as.map At.D)),.od false [],.no]=turns (ar 2) B2 (as.map At.D) [.bo (.tup (as.map At.D)),.od false [],.no]:=cu (by simp);rcases Xo (.bo (.tup (as.map At.D))) as [] .no (by intro x d e;cases e) (by simp;lia)with ⟨h1,kvs,w2,e⟩|⟨h1,e⟩
 ·rw[e]at hs0;unfold B2 at hs0;simp[jf,hs0,h1]
 ·rw[e]at hs0;unfold B2 at hs0;simp[jf,hs0,h1]
def Tm.good:Tm->Prop
 |.s x=>Al x=true
 |.i _=>True
def At.good(a:At):Prop:=Al a.nm=true/\1<=a.ts.length/\a.ts.length<=4/\∀t∈a.ts,t.good
def m4(k d:Pu.D)(r:List (Pu.D×Pu.D))(j:L2.gi):bg ((k,d)::r) j=if bz k=some j then some d else bg r j:=rfl
theorem Lk(j j':L2.gi)(v:Pu.D):∀kvs:List (Pu.D×Pu.D),bg (kvs.map λp=>if bz p.1=some j then(p.1,v)else p) j'=if j'=j then(bg kvs j).map (λ_=>v)else bg kvs j'
 |[]=>by split<;>rfl
 |(k,d)::r=>by
  have ih:=Lk j j' v r;rw[aG]
  by_cases hk:bz k=some j
  ·rw[aJ hk,m4,ih,m4,m4,aJ hk]
   by_cases hj:j'=j
   ·subst hj;rw[aJ hk,aJ rfl];rfl
   ·rw[aK hj,aK hj,hk];have:¬(some j=some j'):=λz=>hj (bM z).symm;rw[aK this,aK this]
  ·rw[aK hk,m4,ih,m4,m4,aK hk]
   by_cases hj:j'=j
   ·subst hj;rw[aK hk,aJ rfl,aJ rfl]
   ·rw[aK hj,aK hj]
def Lm(kvs:List (Pu.D×Pu.D))(j j':L2.gi)(v:Pu.D):bg (pv kvs j v) j'=if j'=j then some v else bg kvs j':=by
 unfold pv;rw[vd];cases e:bg kvs j with
 |none=>
  rw[aK (by decide)];exact qp e
 |some d=>
  rw[aJ (show(some d).isSome=true from rfl),Lk,e];rfl
def HG(n:Nat):En->Out:=(ao (i9 (vc (gc (cv (ai (af (tab n) ik) (aa (ae 3) ah)))) (g2 fx (km (ae 1) (g2 aj (ae 3) (gC (.int 0))) (g1 bu (g2 aj (ae 3) (gC (.int 1))))) (g1 bu (g2 aj (ae 3) (gC (.int 1)))))) (bw (gC (.bl false))) cn)
 (ao (Ao 1 (g2 aj (ae 3) (gC (.int 0))) (g1 bu (g2 aj (ae 3) (gC (.int 1)))))
 (fz [4] (yw 2 (b9 (a7 (g2 aj (ae 3) (gC (.int 1)))) [] (cv (g1 (ba "str") (ae 0))) (a6 0))))))
def HW{a:At}(h:a.good):kh a.D=true:=by
 obtain⟨h1,h2,h3,h4⟩:=h;show(Al a.nm && (decide ((1:Int)<=((a.ts.map Tm.D).length:Int)) && decide (((a.ts.map Tm.D).length:Int)<=4) && (a.ts.map Tm.D).all om))=true;rw[aF,h1,decide_eq_true (by lia),decide_eq_true (by lia)];simp only[gN,fP];intro d hd;obtain⟨t,ht,rfl⟩:=List.mem_map.mp hd;have:=h4 t ht;cases t with
 |s x=>exact this
 |i z=>rfl
def lq(h:Al x=true):J7 x:=.inl (of_decide_eq_true h)
def je(h:J7 x):bO x=true:=by
 unfold J7 good UT at h;simp only[cR,fE,or_false]at h;rcases h with rfl|rfl|rfl|rfl|rfl|rfl|rfl|rfl|rfl|rfl|rfl|rfl|rfl|rfl|rfl<;>decide+kernel
def Tm.good_T0{t:Tm}(h:t.good):T0 t.D/\PQ t.D:=by
 cases t with
 |s x=>exact⟨.str (lq h),Ru (je (lq h))⟩
 |i z=>exact⟨.int z,FG z⟩
def At.good_AT{a:At}(h:a.good):AT a.D:=by
 refine⟨.tup _,λds e x hx=>?_⟩;unfold At.D at e;cases e;simp only[cR,fE,or_false]at hx;rcases hx with rfl|rfl
 ·exact⟨.str (lq h.1),λds e=>by cases e⟩
 ·refine⟨.tup _,λds e=>?_⟩;cases e;have:=h.2.2.1;refine⟨by rw[aF];lia,λx hx=>?_⟩;obtain⟨t,ht,rfl⟩:=List.mem_map.mp hx;exact Tm.good_T0 (h.2.2.2 t ht)
def W7(kvs:List (Pu.D×Pu.D))(a:At):Bool:=match bg kvs (.inr a.nm)with
 |none=>true
 |some (.int k)=>k==(a.ts.length:Int)
 |some _=>false
def KP(n:Nat){a:At}(h:a.good){kvs:List (Pu.D×Pu.D)}(hv:IntV kvs)(hlt:kvs.length<16777216){pre:List Str}(hp:pre.length<=1000)(v0:Sl):
  HG (n+2) [v0,.od false kvs,.ow (pre.map Pu.D.str),.pu a.D,.no]=if W7 kvs a=true then .nx [v0,.od false (pv kvs (.inr a.nm) (.int (a.ts.length:Nat))),.ow ((pre++lu a.ts).map Pu.D.str),.pu a.D,.no]else .rt (.bl false):=by
 have e1:=W3 n (At.good_AT h);rw[HW h]at e1;have hl4:=h.2.2.1;have hs:=q9 a.ts;have hle:pre.length+(lu a.ts).length<=16777216:=by lia
 have hc:∀W:En,W[3]?=some (.pu a.D)->b9 (a7 (g2 aj (ae 3) (gC (.int 1)))) [] (cv (g1 (ba "str") (ae 0))) (a6 0) W=.ok (.lst ((lu a.ts).map Pu.D.str)):=λW hδ=>
  Gd (r:=a7 (g2 aj (ae 3) (gC (.int 1)))) (W:=W) (ts:=a.ts) (by simp[hδ,At.D]) (by lia)
 have hsl:kvs.length<aM:=hlt;have put1:Ao 1 (g2 aj (ae 3) (gC (.int 0))) (g1 bu (g2 aj (ae 3) (gC (.int 1)))) [v0,.od false kvs,.ow (pre.map Pu.D.str),.pu a.D,.no]=.nx [v0,.od false (pv kvs (.inr a.nm) (.int (a.ts.length:Nat))),.ow (pre.map Pu.D.str),.pu a.D,.no]:=by
  simp[At.D,Ao,BE,yt,bz,hsl]
 have rest:∀k:Int,km (ae 1) (g2 aj (ae 3) (gC (.int 0))) (g1 bu (g2 aj (ae 3) (gC (.int 1)))) [v0,.od false kvs,.ow (pre.map Pu.D.str),.pu a.D,.no]=.ok (.int k)->
   HG (n+2) [v0,.od false kvs,.ow (pre.map Pu.D.str),.pu a.D,.no]=if(k==(a.ts.length:Int))=true then .nx [v0,.od false (pv kvs (.inr a.nm) (.int (a.ts.length:Nat))),.ow ((pre++lu a.ts).map Pu.D.str),.pu a.D,.no]else .rt (.bl false):=λk hg=>by
  have ll:g1 bu (g2 aj (ae 3) (gC (.int 1))) [v0,.od false kvs,.ow (pre.map Pu.D.str),.pu a.D,.no]=.ok (.int (a.ts.length:Nat)):=by simp[At.D]
  have ne:g2 fx (km (ae 1) (g2 aj (ae 3) (gC (.int 0))) (g1 bu (g2 aj (ae 3) (gC (.int 1))))) (g1 bu (g2 aj (ae 3) (gC (.int 1)))) [v0,.od false kvs,.ow (pre.map Pu.D.str),.pu a.D,.no]=.ok (.bl (!(k==(a.ts.length:Int)))):=by
   rw[GP,hg,ll];rfl
  have tt:vc (gc (cv (ai (af (tab (n+2)) ik) (aa (ae 3) ah)))) (g2 fx (km (ae 1) (g2 aj (ae 3) (gC (.int 0))) (g1 bu (g2 aj (ae 3) (gC (.int 1))))) (g1 bu (g2 aj (ae 3) (gC (.int 1))))) [v0,.od false kvs,.ow (pre.map Pu.D.str),.pu a.D,.no]=.ok (.bl (!(k==(a.ts.length:Int)))):=by
   rw[YZ,TX];simp only[TN,NB,Zx,Zz,SF,dU,fU,e1,Ho,Z5,Hq,dD,ne]
  unfold HG;rw[gy,Fz,tt];cases hk:(k==(a.ts.length:Int))with
  |true=>
   simp only[fj,dD,Bs,gy,put1,if_true];simp[hc,hle]
  |false=>
   simp only[fj,iN,Z0,ZE];rfl
 unfold W7;cases e:bg kvs (.inr a.nm)with
 |none=>
  dsimp only;rw[rest (a.ts.length:Nat) (by unfold km;simp[At.D,bz,e])];simp
 |some d=>
  obtain⟨k,rfl⟩:=hv a.nm d e;exact rest k (by unfold km;simp[At.D,bz,e])
def EB(kvs:List (Pu.D×Pu.D))(j:L2.gi)(v:Pu.D):(pv kvs j v).length<=kvs.length+1:=by
 unfold pv;split
 ·rw[aF];lia
 ·rw[aU];simp
def CT(n:Nat)(v0:Sl):∀(as:List At)(kvs kvs':List (Pu.D×Pu.D))(pre:List Str)(v3:Sl),(∀a∈as,a.good)->IntV kvs->(∀x:Str,bg kvs' (.inr x)=bg kvs (.inr x))->kvs'.length+as.length<=1000->pre.length+4 * as.length<=900->
  (B4 kvs as=true/\∃kvs2 w3,turns (ar 3) (HG (n+2)) (as.map At.D) [v0,.od false kvs',.ow (pre.map Pu.D.str),v3,.no]=.nx [v0,.od false kvs2,.ow ((pre++bc as).map Pu.D.str),w3,.no])
  \/(B4 kvs as=false/\turns (ar 3) (HG (n+2)) (as.map At.D) [v0,.od false kvs',.ow (pre.map Pu.D.str),v3,.no]=.rt (.bl false)):=by
 intro as;induction as with
 |nil=>intro kvs kvs' pre v3 _ _ _ _ _;exact .inl ⟨rfl,kvs',v3,by simp[turns,bc]⟩
 |cons a as ih=>
  intro kvs kvs' pre v3 hg hv hr hl hp;have ha:=hg a aI;have hg':∀b∈as,b.good:=λb hb=>hg b (aE _ hb);rw[aL]at hl hp;have hv':IntV kvs':=λx d e=>hv x d (by rw[<-hr x];exact e);have hs:=q9 a.ts;have h4:=ha.2.2.1;have hA:bc (a::as)=lu a.ts++bc as:=by simp[bc]
  have hpl:=EB kvs' (.inr a.nm) (.int (a.ts.length:Nat));rw[aG,b8 (δ1:=[v0,.od false kvs',.ow (pre.map Pu.D.str),.pu a.D,.no]) rfl,KP n ha hv' (by lia) (by lia) v0,hA,<-lM];unfold B4 W7;rw[hr a.nm];cases e:bg kvs (.inr a.nm)with
  |none=>
   dsimp only;rw[aJ rfl];dsimp only;refine ih _ _ _ _ hg' (hv.snoc e) (λx=>?_) (by lia) (by rw[aU];lia);rw[Lm,qp e,hr x]
  |some d=>
   obtain⟨k,rfl⟩:=hv a.nm d e;dsimp only
   by_cases hk:k=(a.ts.length:Int)
   ·subst hk;rw[aJ (beq_self_eq_true _),aJ rfl];dsimp only;refine ih _ _ _ _ hg' hv (λx=>?_) (by lia) (by rw[aU];lia);rw[Lm];split
    ·rename_i hx;rw[Sum.inr.inj hx];exact e.symm
    ·exact hr x
   ·rw[aK (show¬((k==(a.ts.length:Int))=true) by simpa using hk),aK hk];exact .inr ⟨rfl,rfl⟩
def W9(n:Nat):En->Out:=(i9 (vc (ie (gc (cv (ai (af (tab n) fi) (aa (ae 4) ah)))) (gc (cv (ai (af (tab n) fk) (aa (ae 4) ah))))) (ie (cv (g1 (ba "str") (ae 4))) (g2 b0 (ae 4) (ae 2)))) (bw (gC (.bl false))) cn)
def AR(kn:List Str):Pu.D->Bool
 |.str x=>Al x && decide (x∈kn)
 |.int _=>true
 |_=>false
theorem Fe:∀l:List Str,fb (l.map Pu.D.str)=some (l.map nL)
 |[]=>rfl
 |x::l=>by
  show(match fq (.str x)with|some p=>(match fb (l.map Pu.D.str)with|some ps=>some (p::ps)|none=>none)|none=>none)=_;rw[Fe l];rfl
theorem A3:∀{l:List Str},(∀x∈l,bO x=true)->bC (l.map nL)=true
 |[],_=>rfl
 |x::l,h=>by
  show(bO x && bC (l.map nL))=true;rw[h x aI,A3 λy hy=>h y (aE _ hy)];rfl
def U9(l:List Str)(x:Str):((l.map nL).any λy=>bZ y (.str x))=decide (x∈l):=by
 induction l with
 |nil=>rfl
 |cons y l ih=>
  rw[aG,fQ,ih];show((y==x)||decide (x∈l))=_
  by_cases h:y=x
  ·subst h;simp
  ·have h':¬x=y:=λz=>h z.symm;have:(y==x)=false:=by simpa using h
   rw[this];simp[h']
def Ca{l:List Str}(hl:∀y∈l,bO y=true)(hx:bO x=true):Me (.str x) (.lst (l.map Pu.D.str))=some (.bl (decide (x∈l)))/\lr (.str x) (.lst (l.map Pu.D.str))=some (.bl (!decide (x∈l))):=by
 have e:Eg (.str x) (.lst (l.map Pu.D.str))=some (decide (x∈l)):=by
  show(match fb (l.map Pu.D.str),fq (.str x)with
   |some ps,some q=>if bC ps && cU q then some (ps.any λy=>bZ y q)else none
   |_,_=>none)=_
  rw[Fe];show(if bC (l.map nL) && cU (.str x)then some ((l.map nL).any λy=>bZ y (.str x))else none)=_;rw[A3 hl,sd (p:=.str x) hx (cT _),U9];rfl
 unfold Me lr;rw[e];exact⟨rfl,rfl⟩
def KM(n:Nat)(h:T0 d)(hk:∀x∈kn,Al x=true)(v0 v1 v3:Sl):
  W9 (n+1) [v0,v1,.ow (kn.map Pu.D.str),v3,.pu d]=if AR kn d then .nx [v0,v1,.ow (kn.map Pu.D.str),v3,.pu d]else .rt (.bl false):=by
 have e1:=G7 n h;have e2:=Dz n h;have gen:∀{d:Pu.D}(e1:af (tab (n+1)) fi [d]=.ok (.bl false))(e2:af (tab (n+1)) fk [d]=.ok (.bl false)),AR kn d=false->
   W9 (n+1) [v0,v1,.ow (kn.map Pu.D.str),v3,.pu d]=if AR kn d then .nx [v0,v1,.ow (kn.map Pu.D.str),v3,.pu d]else .rt (.bl false):=λ{d} e1 e2 hb=>by
  rw[hb];simp[W9,e1,e2]
 cases h with
 |str h=>
  rename_i x;have e3:=(Ca (l:=kn) (x:=x) (λy hy=>je (lq (hk y hy))) (je h)).2;show _=if(Al x && decide (x∈kn))=true then _ else _
  have e2':af (tab (n+1)) fk [.str x]=.ok (.bl (Al x)):=e2;have e1':af (tab (n+1)) fi [.str x]=.ok (.bl false):=e1;cases ho:Al x with
  |false=>
   rw[ho]at e2';simp[W9,e1',e2']
  |true=>
   rw[ho]at e2'
   by_cases hx:x∈kn
   ·rw[decide_eq_true hx]at e3;simp[W9,e1',e2',e3,hx]
   ·rw[decide_eq_false hx]at e3;simp[W9,e1',e2',e3,hx]
 |int i=>
  have e1':af (tab (n+1)) fi [.int i]=.ok (.bl true):=e1;simp[W9,e1',AR]
 |bl b=>exact gen (e1:=e1) (e2:=e2) rfl
 |non=>exact gen (e1:=e1) (e2:=e2) rfl
 |tup ds=>exact gen (e1:=e1) (e2:=e2) rfl
 |lst ds=>exact gen (e1:=e1) (e2:=e2) rfl
def CI(n:Nat)(hk:∀x∈kn,Al x=true)(v0 v1 v3:Sl):∀(ds:List Pu.D)(v4:Sl),(∀d∈ds,T0 d)->
  (ds.all (AR kn)=true/\∃w4,turns (ar 4) (W9 (n+1)) ds [v0,v1,.ow (kn.map Pu.D.str),v3,v4]=.nx [v0,v1,.ow (kn.map Pu.D.str),v3,w4])
  \/(ds.all (AR kn)=false/\turns (ar 4) (W9 (n+1)) ds [v0,v1,.ow (kn.map Pu.D.str),v3,v4]=.rt (.bl false)):=by
 intro ds;induction ds with
 |nil=>intro v4 _;exact .inl ⟨rfl,v4,rfl⟩
 |cons d ds ih=>
  intro v4 h;rw[b8 (δ1:=[v0,v1,.ow (kn.map Pu.D.str),v3,.pu d]) rfl,KM n (h d aI) hk,cP];cases e:AR kn d with
  |true=>
   rw[aJ rfl,gN];exact ih (.pu d) λd hd=>h d (aE _ hd)
  |false=>exact .inr ⟨rfl,rfl⟩
def gz(acc:List Str):List Str->List Str
 |[]=>acc
 |x::r=>if x∈acc then gz acc r else gz (acc++[x]) r
def jk(l:List Str):List (Pu.D×Pu.D):=l.map λx=>(.str x,.bl true)
def Xa(l:List Str)(x:Str):bg (jk l) (.inr x)=if x∈l then some (.bl true)else none:=by
 induction l with
 |nil=>rfl
 |cons y l ih=>
  show(if bz (.str y)=some (.inr x)then some (Pu.D.bl true)else bg (jk l) (.inr x))=_;rw[ih]
  by_cases h:y=x
  ·subst h;simp[bz]
  ·have h':¬x=y:=λz=>h z.symm;have hk:¬bz (.str y)=some (.inr x):=by simp[bz,h]
   rw[aK hk];simp[h']
def EC(l:List Str)(x:Str):pv (jk l) (.inr x) (.bl true)=jk (if x∈l then l else l++[x]):=by
 have h:=Xa l x
 by_cases hx:x∈l
 ·rw[aJ hx]at h⊢;unfold pv;rw[vd,h];show(jk l).map _=jk l;unfold jk;rw[bV];apply eQ;intro y _;show(if bz (.str y)=some (.inr x)then(Pu.D.str y,Pu.D.bl true)else(.str y,.bl true))=_;split<;>rfl
 ·rw[aK hx]at h⊢;rw[Jk h];unfold jk;rw[dH];rfl
def FJ:En->Out:=(i9 (cv (g1 (ba "str") (ae 2))) (Ao 1 (ae 2) (gC (.bl true))) cn)
def Rt(v0:Sl):∀(ts:List Tm)(acc:List Str)(v2:Sl),acc.length+ts.length<=1000->∃w2,turns (ar 2) FJ (ts.map Tm.D) [v0,.od false (jk acc),v2]=.nx [v0,.od false (jk (gz acc (lu ts))),w2]:=by
 intro ts;induction ts with
 |nil=>intro acc v2 _;exact⟨v2,rfl⟩
 |cons t ts ih=>
  intro acc v2 hl;rw[aL]at hl;rw[aG,b8 (δ1:=[v0,.od false (jk acc),.pu t.D]) rfl];cases t with
  |i z=>
   have eb:FJ [v0,.od false (jk acc),.pu (Tm.i z).D]=.nx [v0,.od false (jk acc),.pu (Tm.i z).D]:=by simp[FJ,Tm.D]
   rw[eb];exact ih acc _ (by lia)
  |s x=>
   have hlt:(jk acc).length<aM:=by unfold jk;rw[aF];show _<16777216;lia
   have eb:FJ [v0,.od false (jk acc),.pu (Tm.s x).D]=.nx [v0,.od false (jk (if x∈acc then acc else acc++[x])),.pu (Tm.s x).D]:=by
    simp[FJ,Tm.D,Ao,BE,yt,bz,hlt,EC]
   rw[eb];have hde:gz acc (lu (.s x::ts))=gz (if x∈acc then acc else acc++[x]) (lu ts):=by
    show(if x∈acc then gz acc (lu ts)else gz (acc++[x]) (lu ts))=_
    by_cases h:x∈acc<;>simp[h]
   rw[hde];refine ih _ _ ?_;split
   ·lia
   ·rw[aU];simp;lia
def Lb(l:List Str):Qy (jk l)=l.map Pu.D.str:=by unfold Qy jk;rw[bV];rfl
def y7(n:Nat)(ts:List Tm)(hl:ts.length<=1000)(b:Bool):af (tab (n+1)) di [if b then .tup (ts.map Tm.D)else .lst (ts.map Tm.D)]=.ok (.lst ((gz [] (lu ts)).map Pu.D.str)):=by
 rw[Kt];cases b with
 |true=>
  obtain⟨w2,e⟩:=Rt (.bo (.tup (ts.map Tm.D))) ts [] .no (by simpa using hl);have hs:c7 (ar 2) (a7 (yd 0)) FJ [.bo (.tup (ts.map Tm.D)),.od false [],.no]=.nx [.bo (.tup (ts.map Tm.D)),.od false (jk (gz [] (lu ts))),w2]:=by
   rw[cu (ds:=ts.map Tm.D) (by simp)];exact e
  unfold FJ at hs;simp[ub,hs,iy,Lb]
 |false=>
  obtain⟨w2,e⟩:=Rt (.bo (.lst (ts.map Tm.D))) ts [] .no (by simpa using hl);have hs:c7 (ar 2) (a7 (yd 0)) FJ [.bo (.lst (ts.map Tm.D)),.od false [],.no]=.nx [.bo (.lst (ts.map Tm.D)),.od false (jk (gz [] (lu ts))),w2]:=by
   rw[cu (ds:=ts.map Tm.D) (by simp)];exact e
  unfold FJ at hs;simp[ub,hs,iy,Lb]
theorem jt(x:Str):∀(l acc:List Str),x∈gz acc l↔x∈acc\/x∈l
 |[],acc=>by simp[gz]
 |y::l,acc=>by
  unfold gz
  by_cases h:y∈acc
  ·rw[aJ h,jt x l acc,cR];constructor
   ·rintro (z|z)
    ·exact .inl z
    ·exact .inr (.inr z)
   ·rintro (z|z|z)
    ·exact .inl z
    ·subst z;exact .inl h
    ·exact .inr z
  ·rw[aK h,jt x l,mQ,List.mem_singleton,cR];constructor
   ·rintro ((z|z)|z)
    ·exact .inl z
    ·exact .inr (.inl z)
    ·exact .inr (.inr z)
   ·rintro (z|z|z)
    ·exact .inl (.inl z)
    ·exact .inl (.inr z)
    ·exact .inr z
def p5(as:List At):List Tm:=as.flatMap At.ts
def E9(v0:Sl):∀(as:List At)(pre:List Tm)(v2:Sl),(∀a∈as,a.good)->pre.length+4 * as.length<=4000->
  ∃w2,turns (ar 2) (yw 1 (g2 aj (ae 2) (gC (.int 1)))) (as.map At.D) [v0,.ow (pre.map Tm.D),v2]=.nx [v0,.ow ((pre++p5 as).map Tm.D),w2]:=by
 intro as;induction as with
 |nil=>intro pre v2 _ _;exact⟨v2,by simp[turns,p5]⟩
 |cons a as ih=>
  intro pre v2 hok hl;have ha:=(hok a aI).2;rw[aL]at hl;obtain⟨w2,e⟩:=ih (pre++a.ts) (.pu a.D) (λb hb=>hok b (aE _ hb)) (by rw[aU];lia);refine⟨w2,?_⟩;rw[aG,b8 (δ1:=[v0,.ow (pre.map Tm.D),.pu a.D]) rfl];have hle:pre.length+a.ts.length<=16777216:=by lia
  have eb:yw 1 (g2 aj (ae 2) (gC (.int 1))) [v0,.ow (pre.map Tm.D),.pu a.D]=.nx [v0,.ow ((pre++a.ts).map Tm.D),.pu a.D]:=by simp[At.D,hle]
  rw[eb];dsimp only;rw[e];simp[p5]
def za(n:Nat){as:List At}(h:∀a∈as,a.good)(hl:as.length<=900)(b:Bool):af (tab (n+1)) c9 [if b then .tup (as.map At.D)else .lst (as.map At.D)]=.ok (.lst ((p5 as).map Tm.D)):=by
 rw[Nw];cases b with
 |true=>
  obtain⟨w2,e⟩:=E9 (.bo (.tup (as.map At.D))) as [] .no h (by simp;lia);have hs:c7 (ar 2) (a7 (yd 0)) (yw 1 (g2 aj (ae 2) (gC (.int 1)))) [.bo (.tup (as.map At.D)),.ow [],.no]=.nx [.bo (.tup (as.map At.D)),.ow ((p5 as).map Tm.D),w2]:=by
   rw[cu (ds:=as.map At.D) (by simp)];simpa using e
  simp[wm,hs]
 |false=>
  obtain⟨w2,e⟩:=E9 (.bo (.lst (as.map At.D))) as [] .no h (by simp;lia);have hs:c7 (ar 2) (a7 (yd 0)) (yw 1 (g2 aj (ae 2) (gC (.int 1)))) [.bo (.lst (as.map At.D)),.ow [],.no]=.nx [.bo (.lst (as.map At.D)),.ow ((p5 as).map Tm.D),w2]:=by
   rw[cu (ds:=as.map At.D) (by simp)];simpa using e
  simp[wm,hs]
def Pe(a b:List Tm):lu (a++b)=lu a++lu b:=List.filterMap_append ..
def J3(as:List At):lu (p5 as)=bc as:=by
 induction as with
 |nil=>rfl
 |cons a as ih=>
  have:p5 (a::as)=a.ts++p5 as:=by simp[p5]
  rw[this,Pe,ih];simp[bc]
def GR{as:List At}(h:∀a∈as,a.good):(p5 as).length<=4 * as.length:=by
 induction as with
 |nil=>simp[p5]
 |cons a as ih=>
  have h2:=(h a aI).2.2.1;have h3:=ih λb hb=>h b (aE _ hb);unfold p5 at h3⊢;rw[jU,aU,aL]
  lia
def Ry(h:∀t∈ts,t.good):∀x∈lu ts,Al x=true:=λx hx=>by
 unfold lu at hx;obtain⟨t,ht,e⟩:=List.mem_filterMap.mp hx;cases t with
 |s y=>cases e;exact h _ ht
 |i z=>cases e
def vm(h:∀a∈as,a.good):∀x∈bc as,Al x=true:=λx hx=>by
 obtain⟨a,ha,hx⟩:=List.mem_flatMap.mp hx;exact Ry (h a ha).2.2.2 x hx
def ya:∀(l acc:List Str),(gz acc l).length<=acc.length+l.length:=by
 intro l;induction l with
 |nil=>intro acc;simp[gz]
 |cons x l ih=>
  intro acc;unfold gz;split
  ·have:=ih acc;simp;lia
  ·have:=ih (acc++[x]);simp at this⊢;lia
def FC(hd:List Tm)(as:List At):Bool:=(gz [] (lu hd)).all λx=>decide (x∈gz [] (bc as))
def Mo(n:Nat){hd:List Tm}{as:List At}(hh:∀t∈hd,t.good)(ha:∀a∈as,a.good)(hl1:hd.length<=900)(hl2:as.length<=200):af (tab (n+2)) j7 [.tup (hd.map Tm.D),.tup (as.map At.D)]=.ok (.bl (FC hd as)):=by
 rw[Df];have hl3:=GR ha;have e1:=za n ha (by lia) true;have e2:=y7 n (p5 as) (by lia) false;have e3:=y7 n hd (by lia) true;simp only[if_true,Bool.false_eq_true,if_false]at e1 e2 e3;rw[J3]at e2;have hw:=vm ha;have hw2:=Ry hh;have hdl:(gz [] (lu hd)).length<=1000:=by
  have h1:=ya (lu hd) [];have h2:=q9 hd;simp at h1
  lia
 have hc:b9 (a7 (ai (af (tab (n+1)) di) (aa (ae 0) ah))) [2] (gC (.bl true)) (g2 ur (ae 0) (ae 1)) [.bo (.tup (hd.map Tm.D)),.bo (.tup (as.map At.D)),.pu (.lst ((gz [] (bc as)).map Pu.D.str))]=.ok (.lst ((gz [] (lu hd)).map λx=>Pu.D.bl (decide (x∈gz [] (bc as))))):=
  m9 (f:=Pu.D.str) (by simp[e3]) (by lia) λy hy=>by
   have hy':y∈lu hd:=by simpa using(jt y (lu hd) []).mp hy
   have:=(Ca (l:=gz [] (bc as)) (x:=y) (λz hz=>je (lq (hw z (by simpa using(jt z _ []).mp hz)))) (je (lq (hw2 y hy')))).1;simp[cc,this]
 have hall:=Py (λx=>decide (x∈gz [] (bc as))) (gz [] (lu hd));unfold FC;simp[t7,e1,e2,hc,hall,-bV]
def Jx(hd:List Tm)(as:List At):FC hd as=(lu hd).all λx=>decide (x∈bc as):=by
 unfold FC;rw[Bool.eq_iff_iff,fP,fP];have m1:∀x,x∈gz [] (lu hd)↔x∈lu hd:=λx=>by rw[jt];simp
 have m2:∀x,x∈gz [] (bc as)↔x∈bc as:=λx=>by rw[jt];simp
 constructor
 ·intro h x hx;have:=of_decide_eq_true (h x ((m1 x).mpr hx));exact decide_eq_true ((m2 x).mp this)
 ·intro h x hx;have:=of_decide_eq_true (h x ((m1 x).mp hx));exact decide_eq_true ((m2 x).mpr this)
theorem B8:∀{hd:List Tm},(∀t∈hd,t.good)->(hd.map Tm.D).all (AR kn)=(lu hd).all λx=>decide (x∈kn)
 |[],_=>rfl
 |.s x::r,h=>by
  have hx:Al x=true:=h _ aI;have ih:=B8 (kn:=kn) (hd:=r) λt ht=>h t (aE _ ht);show((Al x && decide (x∈kn)) && (r.map Tm.D).all (AR kn))=(decide (x∈kn) && (lu r).all λx=>decide (x∈kn));rw[ih,hx,gN]
 |.i z::r,h=>by
  have ih:=B8 (kn:=kn) (hd:=r) λt ht=>h t (aE _ ht);show(true && (r.map Tm.D).all (AR kn))=(lu r).all λx=>decide (x∈kn);rw[ih,gN]
structure PT(h a:Pu.D):Prop where
 h0:T0 h
 h1:∀ds,h=.tup ds->ds.length<=1000/\∀x∈ds,T0 x
 a0:T0 a
 a1:∀ds,a=.tup ds->ds.length<=1000/\∀x∈ds,AT x
section
variable(n:Nat){h a:Pu.D}
def Nc(P:PT h a):af (tab (n+5)) fh [h,.int 0,.int 4,.fn "is_term"]=.ok (.bl (p6 0 4 om h)):=
 uy (n+4) (lo:=0) (hi:=4) (y:="is_term") (d:=p9) (pB:=om) (by kernel_rfl) rfl P.h0 (λxs hx=>⟨(P.h1 xs hx).1,λx hx'=>Gq (n+2) ((P.h1 xs hx).2 x hx')⟩)
def P7(P:PT h a):af (tab (n+5)) fh [a,.int 1,.int 6,.fn "is_atom"]=.ok (.bl (p6 1 6 kh a)):=
 uy (n+4) (lo:=1) (hi:=6) (y:="is_atom") (d:=u9) (pB:=kh) (by kernel_rfl) rfl P.a0 (λxs hx=>⟨(P.a1 xs hx).1,λx hx'=>Td n ((P.a1 xs hx).2 x hx')⟩)
def Nd:af (tab (n+5)) jc [.tup [h,a]]=.ok (.bl true):=by rw[Gh];simp[ja]
def PC(P:PT h a)(e:p6 0 4 om h=false):af (tab (n+6)) cf [.tup [h,a]]=.er "NoAsking":=by
 rw[ku];have e1:=Nd n (h:=h) (a:=a);have e2:=Nc n P;rw[e]at e2;simp[gr,e1,e2,kc]
def PB(P:PT h a)(e:p6 1 6 kh a=false):af (tab (n+6)) cf [.tup [h,a]]=.er "NoAsking":=by
 cases f:p6 0 4 om h with
 |false=>exact PC n P f
 |true=>
  rw[ku];have e1:=Nd n (h:=h) (a:=a);have e2:=Nc n P;have e3:=P7 n P;rw[e]at e3;rw[f]at e2;simp[gr,e1,e2,e3,kc]
def QZ{hd:List Tm}{as:List At}(P:PT (.tup (hd.map Tm.D)) (.tup (as.map At.D)))(hh:∀t∈hd,t.good)(ha:∀a∈as,a.good)(l1:hd.length<=4)(l2:1<=as.length)(l3:as.length<=6)(e:B4 [] as=true):
  af (tab (n+6)) cf [c8 hd as]=if FC hd as then .ok (c8 hd as)else .er "NoAsking":=by
 rw[ku];have e1:=Nd n (h:=.tup (hd.map Tm.D)) (a:=.tup (as.map At.D));have e2:=Nc n P;have e3:=P7 n P;have e4:=Tt (n+4) (as:=as) (by lia);have e5:=Mo (n+3) hh ha (by lia) (by lia);have f:p6 0 4 om (.tup (hd.map Tm.D))=true:=by
  show(decide ((0:Int)<=((hd.map Tm.D).length:Int)) && decide (((hd.map Tm.D).length:Int)<=4) && (hd.map Tm.D).all om)=true;rw[aF,decide_eq_true (by lia),decide_eq_true (by lia)];simp only[gN,fP];intro d hd';obtain⟨t,ht,rfl⟩:=List.mem_map.mp hd';have:=hh t ht;cases t with
  |s x=>exact this
  |i z=>rfl
 have g:p6 1 6 kh (.tup (as.map At.D))=true:=by
  show(decide ((1:Int)<=((as.map At.D).length:Int)) && decide (((as.map At.D).length:Int)<=6) && (as.map At.D).all kh)=true;rw[aF,decide_eq_true (by lia),decide_eq_true (by lia)];simp only[gN,fP];intro d hd';obtain⟨b,hb,rfl⟩:=List.mem_map.mp hd';exact HW (ha b hb)
 rw[f]at e2;rw[g]at e3;rw[e]at e4;unfold c8;cases hs:FC hd as with
 |true=>
  rw[hs]at e5;simp[gr,e1,e2,e3,e4,e5,kc]
 |false=>
  rw[hs]at e5;simp[gr,e1,e2,e3,e4,e5,kc]
end
def Q1(n:Nat){hs ds:List Pu.D}(l1:hs.length<=4)(l2:1<=ds.length)(l3:ds.length<=6)(ht:turns (ar 3) (HG (n+2)) ds [.bo (.tup [.tup hs,.tup ds]),.od false [],.ow [],.no,.no]=.nx W)(hf:c7 (ar 4) (a7 (g2 aj (ae 0) (gC (.int 0)))) (W9 (n+2)) W=o)(ho:(∃δ',o=.nx δ')\/o=.rt (.bl false)):
  af (tab (n+3)) cx [.tup [.tup hs,.tup ds]]=.ok (.bl (match o with|.nx _=>true|_=>false)):=by
 rw[sr];have a1:¬(4:Int)<(hs.length:Int):=by lia
 have a2:¬(ds.length:Int)<1:=by lia
 have a3:¬(6:Int)<(ds.length:Int):=by lia
 have hs0:c7 (ar 3) (a7 (g2 aj (ae 0) (gC (.int 1)))) (HG (n+2)) [.bo (.tup [.tup hs,.tup ds]),.od false [],.ow [],.no,.no]=.nx W:=(cu (by simp)).trans ht;unfold HG at hs0;unfold W9 at hf;rcases ho with ⟨δ',rfl⟩|rfl
 ·simp[jr,a1,a2,a3,hs0,hf]
 ·simp[jr,a1,a2,a3,hs0,hf]
end LK
end
section
namespace LK
open PySem Pu
abbrev zh:=List Tm×List At
abbrev Sub:=List (Str×Tm)
def lk:Sub->Str->Option Tm
 |[],_=>none
 |(y,v)::r,x=>if y=x then some v else lk r x
theorem yn(x:Str)(w:Tm):∀(s:Sub)(y:Str),lk (s++[(x,w)]) y=match lk s y with
  |some v=>some v
  |none=>if x=y then some w else none
 |[],y=>rfl
 |(z,v)::r,y=>by
  show(if z=y then some v else lk (r++[(x,w)]) y)=match (if z=y then some v else lk r y)with
   |some v=>some v
   |none=>if x=y then some w else none
  by_cases e:z=y
  ·rw[aJ e,aJ e]
  ·rw[aK e,aK e];exact yn x w r y
def ap(φ:Str->Tm):Tm->Tm
 |.i i=>.i i
 |.s x=>φ x
def U0(s:Sub):Tm->Option Tm
 |.i i=>some (.i i)
 |.s x=>lk s x
def pf:Sub->List Tm->List Tm->Option Sub
 |s,[],[]=>some s
 |s,.i i::ts,w::ws=>if(Tm.i i)=w then pf s ts ws else none
 | s, .s x :: ts, w :: ws => (match lk s x with
  |some v=>if v=w then pf s ts ws else none
  |none=>pf (s++[(x,w)]) ts ws)
 |_,_,_=>none
def Le(s s':Sub):Prop:=∀x v,lk s x=some v->lk s' x=some v
def Le.refl(s:Sub):Le s s:=λ_ _ h=>h
def Le.trans(h:Le a b)(k:Le b c):Le a c:=λx v e=>k x v (h x v e)
def Le.snoc:Le s (s++[(x,w)]):=λy v e=>by rw[yn,e]
def Dh(h:Le s s')(e:U0 s t=some w):U0 s' t=some w:=by
 cases t with
 |i i=>exact e
 |s x=>exact h x w e
theorem qq:∀{ts ws:List Tm}{s s':Sub},pf s ts ws=some s'->Le s s'/\ts.map (U0 s')=ws.map some
 |[],[],s,s',h=>by cases h;exact⟨Le.refl _,rfl⟩
 |[],_::_,s,s',h=>by cases h
 |.i _::_,[],s,s',h=>by cases h
 |.s _::_,[],s,s',h=>by cases h
 |.i i::ts,w::ws,s,s',h=>by
  unfold pf at h;split at h
  ·rename_i e;obtain⟨a,b⟩:=qq h;exact⟨a,by rw[aG,aG,b,<-e];rfl⟩
  ·cases h
 |.s x::ts,w::ws,s,s',h=>by
  unfold pf at h;split at h
  ·rename_i v e;split at h
   ·rename_i e2;obtain⟨a,b⟩:=qq h;exact⟨a,by rw[aG,aG,b,<-e2];show lk s' x::_=_;rw[a x v e]⟩
   ·cases h
  ·rename_i e;obtain⟨a,b⟩:=qq h;refine⟨Le.snoc.trans a,?_⟩;rw[aG,aG,b];show lk s' x::_=_;rw[a x w (by rw[yn,e];exact aJ rfl)]
def PZ(φ:Str->Tm)(s:Sub):Prop:=∀x v,lk s x=some v->φ x=v
theorem j5:∀(ts:List Tm){s:Sub},PZ φ s->∃s',pf s ts (ts.map (ap φ))=some s'/\PZ φ s'
 |[],s,h=>⟨s,rfl,h⟩
 |.i i::ts,s,h=>by
  obtain⟨s',a,b⟩:=j5 ts h;exact⟨s',by rw[aG,pf];show(if(Tm.i i)=Tm.i i then _ else _)=_;rw[aJ rfl];exact a,b⟩
 |.s x::ts,s,h=>by
  rw[aG,pf];cases e:lk s x with
  |some v=>
   dsimp only;rw[aJ (show v=ap φ (Tm.s x)from(h x v e).symm)];exact j5 ts h
  |none=>
   dsimp only;refine j5 ts λy v q=>?_;rw[yn]at q;cases e2:lk s y with
   |some u=>rw[e2]at q;cases q;exact h y v e2
   |none=>
    rw[e2]at q;dsimp only at q;split at q
    ·rename_i z;cases q;rw[<-z];rfl
    ·cases q
def fw:List At->List At->Sub->Option Sub
 |[],_,s=>some s
 |a::A,T,s=>T.findSome? λt=>if t.1=a.1 then(pf s a.2 t.2).bind (fw A T)else none
theorem K1:∀{A:List At}{s s':Sub},fw A T s=some s'->Le s s'/\∀a∈A,∃t∈T,t.1=a.1/\a.2.map (U0 s')=t.2.map some
 |[],s,s',h=>by cases h;exact⟨Le.refl _,λa ha=>by simp at ha⟩
 |a::A,s,s',h=>by
  unfold fw at h;obtain⟨t,ht,e⟩:=List.exists_of_findSome?_eq_some h;split at e
  ·rename_i en;cases e1:pf s a.2 t.2 with
   |none=>rw[e1]at e;cases e
   |some s1=>
    rw[e1]at e;obtain⟨l1,b1⟩:=qq e1;obtain⟨l2,b2⟩:=K1 (show fw A T s1=some s' from e);refine⟨l1.trans l2,λc hc=>?_⟩;rcases List.mem_cons.mp hc with rfl|hc
    ·refine⟨t,ht,en,?_⟩;refine iC λi=>?_;have q:=congrArg (λl=>l[i]?) b1;simp only[bN]at q⊢;cases z:c.2[i]? with
     |none=>rw[z]at q;exact q
     |some u=>
      rw[z]at q;cases z2:t.2[i]? with
      |none=>rw[z2]at q;cases q
      |some w=>
       rw[z2]at q;simp only[fW,lK]at q⊢;exact Dh l2 q
    ·exact b2 c hc
  ·cases e
theorem A8:∀{A:List At}{s:Sub},PZ φ s->(∀a∈A,(At.mk a.1 (a.2.map (ap φ)))∈T)->(fw A T s).isSome
 |[],s,_,_=>rfl
 |a::A,s,h,m=>by
  unfold fw;rw[List.findSome?_isSome_iff];refine⟨_,m a aI,?_⟩;dsimp only;rw[aJ rfl];obtain⟨s1,e,f⟩:=j5 a.2 h;rw[e];exact A8 f λb hb=>m b (aE _ hb)
def M7(one other:zh):Option Sub:=(pf [] other.1 one.1).bind (fw other.2 one.2)
def UX(φ:Str->Tm)(other one:zh):Prop:=other.1.map (ap φ)=one.1/\∀a∈other.2,(At.mk a.1 (a.2.map (ap φ)))∈one.2
def Bt{one other:zh}(h:UX φ other one):(M7 one other).isSome:=by
 unfold M7;obtain⟨s1,e,f⟩:=j5 (φ:=φ) other.1 (s:=[]) (λx v q=>by cases q);rw[h.1]at e;rw[e];exact A8 f h.2
def M0{one other:zh}{s:Sub}(h:M7 one other=some s):other.1.map (U0 s)=one.1.map some/\∀a∈other.2,∃t∈one.2,t.1=a.1/\a.2.map (U0 s)=t.2.map some:=by
 unfold M7 at h;cases e:pf [] other.1 one.1 with
 |none=>rw[e]at h;cases h
 |some s1=>
  rw[e]at h;obtain⟨_,b1⟩:=qq e;obtain⟨l2,b2⟩:=K1 (show fw other.2 one.2 s1=some s from h);refine⟨?_,b2⟩;refine iC λi=>?_;have q:=congrArg (λl=>l[i]?) b1;simp only[bN]at q⊢;cases z:other.1[i]? with
  |none=>rw[z]at q;exact q
  |some u=>
   rw[z]at q;cases z2:one.1[i]? with
   |none=>rw[z2]at q;cases q
   |some w=>
    rw[z2]at q;simp only[fW,lK]at q⊢;exact Dh l2 q
def DE(s:Sub):Str->Tm:=λx=>(lk s x).getD (.s x)
theorem Cd:∀{ts ws:List Tm},ts.map (U0 s)=ws.map some->ts.map (ap (DE s))=ws
 |[],[],_=>rfl
 |[],_::_,h=>by cases h
 |_::_,[],h=>by cases h
 |t::ts,w::ws,h=>by
  rw[aG,aG]at h;injection h with h1 h2
  rw[aG,Cd h2]
  congr 1
  cases t with
  |i i=>exact bM h1
  |s x=>show(lk s x).getD _=w;rw[show lk s x=some w from h1];rfl
def AX{one other:zh}{s:Sub}(h:M7 one other=some s):UX (DE s) other one:=by
 obtain⟨h1,h2⟩:=M0 h;refine⟨Cd h1,λa ha=>?_⟩;obtain⟨t,ht,e1,e2⟩:=h2 a ha;rw[Cd e2,<-e1];exact ht
def Wk(e:a.1=b.1)(k:∀x∈a.2,x∈b.2):UX Tm.s a b:=by
 have q:∀ts:List Tm,ts.map (ap Tm.s)=ts:=λts=>by
  have:ap Tm.s=id:=funext λt=>by cases t<;>rfl
  rw[this,pK]
 refine⟨by rw[q,e],λx hx=>?_⟩;rw[q];exact k x hx
def Cp(a:zh):Prop:=a.2≠[]/\∀x:Str,(Tm.s x)∈a.1->∃b∈a.2,(Tm.s x)∈b.2
def Jy(a:zh):Bool:=a.1.all λt=>match t with
 |.i _=>true
 |.s x=>a.2.any λb=>b.2.any λt=>decide (t=Tm.s x)
def j8(a:zh):Bool:= !a.2.isEmpty && Jy a
def rn(a:zh):j8 a=true↔Cp a:=by
 unfold j8 Cp Jy;rw[aO,fP];constructor
 ·rintro ⟨h1,h2⟩
  refine⟨λz=>(by rw[z]at h1;cases h1),λx hx=>?_⟩;have:=h2 _ hx;simpa using this
 ·rintro ⟨h1,h2⟩
  refine⟨?_,λt ht=>?_⟩
  ·cases h:a.2 with
   |nil=>exact absurd h h1
   |cons _ _=>rfl
  cases t with
  |i i=>rfl
  |s x=>simpa using h2 x ht
end LK
end
section
namespace LK
open PySem PySem.Spec PyProof.Rows Pu
def Tm.P:Tm->jC
 |.s x=>.str x
 |.i z=>.int z
def Tm.w(t:Tm):Prop:=match t with
 |.s x=>bO x=true
 |.i _=>True
theorem Tm.good.w{t:Tm}(h:t.good):t.w:=by
 cases t with
 |s x=>exact je (lq h)
 |i z=>trivial
def R5(t:Tm):fq t.D=some t.P:=by cases t<;>rfl
def W6{t:Tm}(h:t.w):t.P.canLay0=true:=by cases t<;>first|exact h|rfl
def JL:∀a b:Tm,a.P.eqv b.P=decide (a=b)
 |.s x,.s y=>by rw[Tm.P,Tm.P,bZ];by_cases e:x=y<;>simp[e]
 |.s x,.i y=>by rw[Tm.P,Tm.P];simp[bZ]
 |.i x,.s y=>by rw[Tm.P,Tm.P];simp[bZ]
 |.i x,.i y=>by rw[Tm.P,Tm.P,bZ];by_cases e:x=y<;>simp[e]
theorem Qi[DecidableEq α](h:∀a b,(f a).eqv (f b)=decide (a=b)):∀a b:List α,fR (a.map f) (b.map f)=decide (a=b)
 |[],[]=>by simp[fR]
 |[],_::_=>by simp[fR]
 |_::_,[]=>by simp[fR]
 |x::xs,y::ys=>by
  rw[aG,aG,fR,h,Qi h xs ys]
  by_cases h1:x=y<;>by_cases h2:xs=ys<;>simp[h1,h2]
def V1{a b:Tm}(ha:a.w)(hb:b.w):S5 a.D b.D=some (decide (a=b)):=by
 have q:∀t:Tm,t.P.depth<=63:=λt=>by cases t<;>exact cT _
 rw[V3 (R5 a) (R5 b) (W6 ha) (q a) (W6 hb) (q b),JL]
def Lw{a b:Tm}(ha:a.w)(hb:b.w):fx a.D b.D=some (.bl (!decide (a=b))):=by unfold fx;rw[V1 ha hb];rfl
def V5(hx:bO x=true)(hy:bO y=true):dj (.str x) (.str y)=some (.bl (decide (x=y))):=by
 have:=V1 (a:=.s x) (b:=.s y) hx hy;unfold dj;rw[show S5 (.str x) (.str y)=_ from this]
 by_cases e:x=y<;>simp[e]
def At.w(a:At):Prop:=bO a.nm=true/\∀t∈a.ts,t.w
theorem At.good.w{a:At}(h:a.good):a.w:=⟨je (lq h.1),λt ht=>(h.2.2.2 t ht).w⟩
abbrev aD(a:zh):Pu.D:=c8 a.1 a.2
def sD(s:Sub):List (Pu.D×Pu.D):=s.map λp=>(.str p.1,p.2.D)
theorem o7(x:Str):∀s:Sub,bg (sD s) (.inr x)=(lk s x).map Tm.D
 |[]=>rfl
 |(y,v)::r=>by
  show(if bz (.str y)=some (.inr x)then some v.D else bg (sD r) (.inr x))=((if y=x then some v else lk r x)).map Tm.D;rw[o7 x r]
  by_cases h:y=x
  ·rw[aJ h,aJ (by rw[h];rfl)];rfl
  ·rw[aK h,aK (by simp[bz,h])]
def Jl(w:Tm)(h:lk s x=none):pv (sD s) (.inr x) w.D=sD (s++[(x,w)]):=by
 rw[Jk (by rw[o7,h];rfl)];unfold sD;rw[dH];rfl
def O1(s:Sub):(sD s).length=s.length:=by unfold sD;rw[aF]
def DH:En->Out:=(ao (fz [4,5,4] (uu 6 (B0 (cv (g1 (ba "str") (ae 4))) (iw 3 (ae 4) (a6 5)) (Dm (a6 4)))))
 (i9 (g2 fx (ae 6) (ae 5)) (bw (gC .non)) cn))
def DG{t w:Tm}{s:Sub}(ht:t.w)(hw:w.w)(hs:∀p∈s,p.2.w)(hl:s.length<16777216):
  DH [v0,v1,v2,.od false (sD s),.pu t.D,.pu w.D,w6]=match pf s [t] [w]with
   |some s'=>.nx [v0,v1,v2,.od false (sD s'),.pu t.D,.pu w.D,.pu w.D]
   |none=>.rt .non:=by
 have hlt:(sD s).length<aM:=by rw[O1];exact hl
 cases t with
 |i z=>
  have ez:(Tm.i z).D=.int z:=rfl;have e:=Lw (a:=.i z) (b:=w) ht hw;have e':fx (.int z) w.D=some (.bl (!decide (Tm.i z=w))):=e
  by_cases q:Tm.i z=w
  ·subst q;simp[DH,uu,B0,Dm,Res.ef,ez,pf]
  ·have e2:pf s [.i z] [w]=none:=by simp[pf,q]
   rw[e2];simp[DH,uu,B0,Dm,Res.ef,ez,e',q]
 |s x=>
  have hk:bz (.str x)=some (.inr x):=rfl;have ex:(Tm.s x).D=.str x:=rfl;have hlk:=o7 x s;cases e1:lk s x with
  |some v=>
   rw[e1]at hlk;have hv:v.w:=by
    have:∀(s:Sub),(∀p∈s,p.2.w)->lk s x=some v->v.w:=λs=>by
     induction s with
     |nil=>intro _ h;cases h
     |cons p r ih=>
      intro hp h;obtain⟨y,u⟩:=p;unfold lk at h;split at h
      ·cases h;exact hp (y,v) aI
      ·exact ih (λq hq=>hp q (aE _ hq)) h
    exact this s hs e1
   have e:=Lw hv hw;have hlk':bg (sD s) (.inr x)=some v.D:=hlk
   by_cases q:v=w
   ·subst q;have e2:pf s [.s x] [v]=some s:=by simp[pf,e1]
    rw[e2];simp[DH,uu,B0,iw,ex,hk,hlt,hlk',e]
   ·have e2:pf s [.s x] [w]=none:=by simp[pf,e1,q]
    rw[e2];simp[DH,uu,B0,iw,ex,hk,hlt,hlk',e,q]
  |none=>
   rw[e1]at hlk;have hlk':bg (sD s) (.inr x)=none:=hlk;have e:=Lw hw hw;have e2:pf s [.s x] [w]=some (s++[(x,w)]):=by simp[pf,e1]
   rw[e2];simp[DH,uu,B0,iw,ex,hk,hlt,hlk',e,Jl w e1]
def rj(h1:r W=.ok ds)(h2:fn ds=x):ai fn r W=x:=by
 unfold ai;rw[h1];exact h2
def Sub.w(s:Sub):Prop:=∀p∈s,p.2.w
def Sub.w.snoc{s:Sub}{w:Tm}(h:s.w)(hw:w.w):(s++[(x,w)]:Sub).w:=λp hp=>by
 rcases List.mem_append.mp hp with hp|hp
 ·exact h p hp
 ·rw[List.mem_singleton.mp hp];exact hw
def xj(s:Sub):pf s [] []=some s:=by rw[pf]
def LN(s:Sub)(z:Int)(w:Tm)(ts ws:List Tm):pf s (.i z::ts) (w::ws)=if Tm.i z=w then pf s ts ws else none:=by rw[pf]
def LM(s:Sub)(x:Str)(w:Tm)(ts ws:List Tm):pf s (.s x::ts) (w::ws)=match lk s x with
  |some v=>if v=w then pf s ts ws else none
  |none=>pf (s++[(x,w)]) ts ws:=by rw[pf]<;>cases lk s x<;>rfl
def Ci(s:Sub)(t w:Tm)(ts ws:List Tm):pf s (t::ts) (w::ws)=(pf s [t] [w]).bind λs'=>pf s' ts ws:=by
 cases t with
 |i z=>
  rw[LN,LN]
  by_cases q:Tm.i z=w
  ·rw[aJ q,aJ q,xj];rfl
  ·rw[aK q,aK q];rfl
 |s x=>
  rw[LM,LM];cases lk s x with
  |none=>dsimp only;rw[xj];rfl
  |some v=>
   dsimp only
   by_cases q:v=w
   ·rw[aJ q,aJ q,xj];rfl
   ·rw[aK q,aK q];rfl
def Os{s s':Sub}{t w:Tm}(hs:s.w)(hw:w.w)(h:pf s [t] [w]=some s'):s'.w/\s'.length<=s.length+1:=by
 cases t with
 |i z=>
  unfold pf at h;split at h
  ·cases h;exact⟨hs,by lia⟩
  ·cases h
 |s x=>
  unfold pf at h;split at h
  ·split at h
   ·cases h;exact⟨hs,by lia⟩
   ·cases h
  ·cases h;exact⟨hs.snoc hw,by simp⟩
theorem Rg(v0 v1 v2:Sl):∀(ts ws:List Tm)(s:Sub)(v4 v5 v6:Sl),ts.length=ws.length->(∀t∈ts,t.w)->(∀t∈ws,t.w)->s.w->s.length+ts.length<=1000->
  ∃w4 w5 w6,turns (yf [4,5]) DH (vp (ts.map Tm.D) (ws.map Tm.D)) [v0,v1,v2,.od false (sD s),v4,v5,v6]=match pf s ts ws with
   |some s'=>.nx [v0,v1,v2,.od false (sD s'),w4,w5,w6]
   |none=>.rt .non
 |[],[],s,v4,v5,v6,_,_,_,_,_=>⟨v4,v5,v6,rfl⟩
 |[],_::_,s,v4,v5,v6,h,_,_,_,_=>by cases h
 |_::_,[],s,v4,v5,v6,h,_,_,_,_=>by cases h
 |t::ts,w::ws,s,v4,v5,v6,h,ht,hw,hs,hl=>by
  rw[aL]at hl;have e:=DG (v0:=v0) (v1:=v1) (v2:=v2) (w6:=v6) (ht t aI) (hw w aI) hs (by lia);rw[aG,aG,vp,b8 (δ1:=[v0,v1,v2,.od false (sD s),.pu t.D,.pu w.D,v6]) rfl,e,Ci s t w ts ws];cases e1:pf s [t] [w]with
  |none=>exact⟨v4,v5,v6,rfl⟩
  |some s1=>
   obtain⟨a1,a2⟩:=Os hs (hw w aI) e1;exact Rg v0 v1 v2 ts ws s1 _ _ _ (by simpa using h) (λu hu=>ht u (aE _ hu)) (λu hu=>hw u (aE _ hu)) a1 (by lia)
theorem Oq:∀{ts ws:List Tm}{s:Sub},ts.length≠ws.length->pf s ts ws=none
 |[],[],s,h=>absurd rfl h
 |[],_::_,s,h=>rfl
 |.i _::_,[],s,h=>rfl
 |.s _::_,[],s,h=>rfl
 |t::ts,w::ws,s,h=>by
  rw[Ci s t w ts ws];cases pf s [t] [w]with
  |none=>rfl
  |some s'=>exact Oq (by simpa using h)
theorem DF:∀{ts ws:List Tm}{s s':Sub},s.w->(∀t∈ws,t.w)->pf s ts ws=some s'->s'.w/\s'.length<=s.length+ts.length
 |[],[],s,s',h,_,e=>by cases e;exact⟨h,by simp⟩
 |[],_::_,s,s',h,_,e=>by cases e
 |.i _::_,[],s,s',h,_,e=>by cases e
 |.s _::_,[],s,s',h,_,e=>by cases e
 |t::ts,w::ws,s,s',h,hw,e=>by
  rw[Ci s t w ts ws]at e;cases e1:pf s [t] [w]with
  |none=>rw[e1]at e;cases e
  |some s1=>
   rw[e1]at e;obtain⟨a1,a2⟩:=Os h (hw w aI) e1;obtain⟨b1,b2⟩:=DF a1 (λu hu=>hw u (aE _ hu)) (show pf s1 ts ws=some s' from e);exact⟨b1,by rw[aL];lia⟩
def rD:Option Sub->Pu.D
 |some s=>.dct false (sD s)
 |none=>.non
def Dj(n:Nat){ts ws:List Tm}{s:Sub}(ht:∀t∈ts,t.w)(hw:∀t∈ws,t.w)(hs:s.w)(hl:s.length+ts.length<=1000):
  af (tab (n+1)) ck [.dct false (sD s),.tup (ts.map Tm.D),.tup (ws.map Tm.D)]=.ok (rD (pf s ts ws)):=by
 rw[Fs]
 by_cases h:ts.length=ws.length
 ·obtain⟨w4,w5,w6,e⟩:=Rg (.bo (.dct false (sD s))) (.bo (.tup (ts.map Tm.D))) (.bo (.tup (ws.map Tm.D))) ts ws s .no .no .no h ht hw hs hl;have hf:c7 (yf [4,5]) (N3 (aa (ae 1) (aa (ae 2) ah))) DH [.bo (.dct false (sD s)),.bo (.tup (ts.map Tm.D)),.bo (.tup (ws.map Tm.D)),.od false (sD s),.no,.no,.no]=_:=(cu (ds:=vp (ts.map Tm.D) (ws.map Tm.D)) (by simp[N3])).trans e;unfold DH at hf;cases ep:pf s ts ws with
  |none=>rw[ep]at hf;simp[lg,h,hf,rD]
  |some s'=>rw[ep]at hf;simp[lg,h,hf,rD]
 ·rw[Oq h];have h':((ts.length:Int)==(ws.length:Int))=false:=beq_eq_false_iff_ne.mpr (by lia);simp[lg,h',rD]
def BR(p f:List Pu.D->Res):En->Out:=(ao (bx 5 (Qq (g2 dj (g2 aj (ae 4) (gC (.int 0))) (ae 3)) (ai p (aa (ae 2) (aa (g2 aj (g2 aj (ae 0) (gC (.int 0))) (gC (.int 1))) (aa (g2 aj (ae 4) (gC (.int 1))) ah)))) (gC .non)))
 (ao (fz [5] (bx 6 (Qq (g2 tj (ae 5) (gC .non)) (gC .non) (ai f (aa (M5 (ae 0) (some (gC (.int 1))) none) (aa (ae 1) (aa (a6 5) ah)))))))
 (i9 (g2 fo (ae 6) (gC .non)) (fz [6] (bw (a6 6))) cn)))
def QX(d:Pu.D)(ds:List Pu.D):o9 (.tup (d::ds)) (some 1) none=some (.tup ds):=by
 show some (Pu.D.tup (zx (d::ds) (some ((1:Nat):Int)) none))=_;unfold zx;rw[HT.Em,HT.Jq]
 congr 2
 rw[Nat.min_eq_left (by simp)];simp
def YN(d:Pu.D)(ds:List Pu.D):aj (.tup (d::ds)) (.int 0)=some d:=by
 show L2.atI (d::ds) ((0:Nat):Int)=_;exact L2.xu rfl
def BQ{a t:At}(ha:bO a.nm=true)(ht:bO t.nm=true)(hp:p [.dct false (sD s),.tup (a.ts.map Tm.D),.tup (t.ts.map Tm.D)]=.ok (rD (pf s a.ts t.ts)))
  (hf:∀s1,pf s a.ts t.ts=some s1->f [.tup (A.map At.D),.tup (T.map At.D),.dct false (sD s1)]=.ok (rD (fw A T s1)))(v5 v6:Sl):
  ∃w5 w6,BR p f [.bo (.tup ((a::A).map At.D)),.bo (.tup (T.map At.D)),.pu (.dct false (sD s)),.pu (.str a.nm),.pu t.D,v5,v6]=match (if t.nm=a.nm then(pf s a.ts t.ts).bind (fw A T)else none)with
   |some s'=>.rt (.dct false (sD s'))
   |none=>.nx [.bo (.tup ((a::A).map At.D)),.bo (.tup (T.map At.D)),.pu (.dct false (sD s)),.pu (.str a.nm),.pu t.D,w5,w6]:=by
 have e0:=V5 ht ha;have i0:aj (.tup (.tup [.str a.nm,.tup (a.ts.map Tm.D)]::A.map At.D)) (.int 0)=some (.tup [.str a.nm,.tup (a.ts.map Tm.D)]):=YN _ _;have c1:=QX (.tup [.str a.nm,.tup (a.ts.map Tm.D)]) (A.map At.D)
 by_cases hn:t.nm=a.nm
 ·rw[aJ hn];rw[decide_eq_true hn]at e0;cases ep:pf s a.ts t.ts with
  |none=>
   rw[ep]at hp;have hp':p [.dct false (sD s),.tup (a.ts.map Tm.D),.tup (t.ts.map Tm.D)]=.ok .non:=hp;exact⟨.pu .non,.pu .non,by simp[BR,At.D,e0,i0,hp',l0]⟩
  |some s1=>
   rw[ep]at hp;have hp':p [.dct false (sD s),.tup (a.ts.map Tm.D),.tup (t.ts.map Tm.D)]=.ok (.dct false (sD s1)):=hp;have hf1:=hf s1 ep;rw[show(some s1).bind (fw A T)=fw A T s1 from rfl];cases ef:fw A T s1 with
   |none=>
    rw[ef]at hf1;have hf':f [.tup (A.map At.D),.tup (T.map At.D),.dct false (sD s1)]=.ok .non:=hf1;exact⟨.pu (.dct false (sD s1)),.pu .non,by simp[BR,At.D,e0,i0,hp',hf',l0,M5,HL,c1]⟩
   |some s2=>
    rw[ef]at hf1;have hf':f [.tup (A.map At.D),.tup (T.map At.D),.dct false (sD s1)]=.ok (.dct false (sD s2)):=hf1;exact⟨.no,.no,by simp[BR,At.D,e0,i0,hp',hf',l0,M5,HL,c1]⟩
 ·rw[aK hn];rw[decide_eq_false hn]at e0;exact⟨.pu .non,.pu .non,by simp[BR,At.D,e0,l0]⟩
theorem Qp{a:At}(ha:bO a.nm=true)(hp:∀t∈T,p [.dct false (sD s),.tup (a.ts.map Tm.D),.tup (t.ts.map Tm.D)]=.ok (rD (pf s a.ts t.ts)))
  (hf:∀t∈T,∀s1,pf s a.ts t.ts=some s1->f [.tup (A.map At.D),.tup (T.map At.D),.dct false (sD s1)]=.ok (rD (fw A T s1))):∀(L:List At)(v4 v5 v6:Sl),(∀t∈L,t∈T/\bO t.nm=true)->
  ∃w4 w5 w6,turns (ar 4) (BR p f) (L.map At.D) [.bo (.tup ((a::A).map At.D)),.bo (.tup (T.map At.D)),.pu (.dct false (sD s)),.pu (.str a.nm),v4,v5,v6]=match L.findSome? (λt=>if t.nm=a.nm then(pf s a.ts t.ts).bind (fw A T)else none)with
   |some s'=>.rt (.dct false (sD s'))
   |none=>.nx [.bo (.tup ((a::A).map At.D)),.bo (.tup (T.map At.D)),.pu (.dct false (sD s)),.pu (.str a.nm),w4,w5,w6]
 |[],v4,v5,v6,_=>⟨v4,v5,v6,rfl⟩
 |t::L,v4,v5,v6,h=>by
  obtain⟨h1,h2⟩:=h t aI;obtain⟨w5,w6,e⟩:=BQ (A:=A) (T:=T) ha h2 (hp t h1) (hf t h1) v5 v6;rw[aG,b8 (δ1:=[.bo (.tup ((a::A).map At.D)),.bo (.tup (T.map At.D)),.pu (.dct false (sD s)),.pu (.str a.nm),.pu t.D,v5,v6]) rfl,e,List.findSome?_cons];cases (if t.nm=a.nm then(pf s a.ts t.ts).bind (fw A T)else none)with
  |some s'=>exact⟨.no,.no,.no,rfl⟩
  |none=>exact Qp ha hp hf L (.pu t.D) w5 w6 λu hu=>h u (aE _ hu)
theorem K0(T:List At)(hT:∀t∈T,t.w):∀(A:List At)(s:Sub)(n:Nat),(∀a∈A,a.w/\a.ts.length<=4)->s.w->s.length+4 * A.length<=900->
  af (tab (n+A.length+2)) dh [.tup (A.map At.D),.tup (T.map At.D),.dct false (sD s)]=.ok (rD (fw A T s))
 |[],s,n,_,_,_=>by
  show af (tab (n+1+1)) _ _=_;rw[A6];have tr:bD (Ff (.tup []))=some (.bl false):=rfl;simp[ua,tr,rD,fw]
 |a::A,s,n,hA,hs,hl=>by
  rw[aL]at hl;obtain⟨ha,hal⟩:=hA a aI;show af (tab ((n+A.length+2)+1)) _ _=_;rw[A6];obtain⟨w4,w5,w6,e⟩:=Qp (p:=af (tab (n+A.length+2)) ck) (f:=af (tab (n+A.length+2)) dh) (a:=a) (A:=A) (T:=T) (s:=s) ha.1
   (λt ht=>Dj (n+A.length+1) ha.2 (hT t ht).2 hs (by lia)) (λt ht s1 e1=>by
    obtain⟨b1,b2⟩:=DF hs (hT t ht).2 e1;exact K0 T hT A s1 n (λb hb=>hA b (aE _ hb)) b1 (by lia)) T .no .no .no λt ht=>⟨ht,(hT t ht).1⟩
  have hf:c7 (ar 4) (a7 (yd 1)) (BR (af (tab (n+A.length+2)) ck) (af (tab (n+A.length+2)) dh)) [.bo (.tup ((a::A).map At.D)),.bo (.tup (T.map At.D)),.pu (.dct false (sD s)),.pu (.str a.nm),.no,.no,.no]=_:=(cu (ds:=T.map At.D) (by simp)).trans e;have hb:ua (n+A.length+2)=(ao (i9 (gc (cv (ae 0))) (fz [2] (bw (a6 2))) cn)
   (ao (bx 3 (g2 aj (g2 aj (ae 0) (gC (.int 0))) (gC (.int 0))))
   (ao (fz [1] (c7 (ar 4) (a7 (yd 1)) (BR (af (tab (n+A.length+2)) ck) (af (tab (n+A.length+2)) dh))))
   (bw (gC .non))))):=rfl
  rw[hb];have tr:bD (Ff (.tup ((a::A).map At.D)))=some (.bl true):=rfl;have i0:aj (.tup ((a::A).map At.D)) (.int 0)=some (.tup [.str a.nm,.tup (a.ts.map Tm.D)]):=YN _ _;have ent:(bq [true,true,false] [Pu.D.tup ((a::A).map At.D),.tup (T.map At.D),.dct false (sD s)]++bE (7 - [Pu.D.tup ((a::A).map At.D),.tup (T.map At.D),.dct false (sD s)].length) .no)=[.bo (.tup ((a::A).map At.D)),.bo (.tup (T.map At.D)),.pu (.dct false (sD s)),.no,.no,.no,.no]:=rfl;rw[ent];generalize hA1:Pu.D.tup ((a::A).map At.D)=DA at *;generalize BR (af (tab (n+A.length+2)) ck) (af (tab (n+A.length+2)) dh)=FB at hf⊢;have hfw:fw (a::A) T s=T.findSome? λt=>if t.nm=a.nm then(pf s a.ts t.ts).bind (fw A T)else none:=rfl
  rw[hfw];cases er:T.findSome? (λt=>if t.nm=a.nm then(pf s a.ts t.ts).bind (fw A T)else none)with
  |some s'=>rw[er]at hf;simp[tr,i0,hf,rD]
  |none=>rw[er]at hf;simp[tr,i0,hf,rD]
def CG:En->Out:=(i9 (ie (cv (g1 (ba "str") (ae 3))) (g2 b0 (ae 3) (ae 1))) (fz [3] (qu 1 (a6 3))) cn)
theorem D1(v0 v2:Sl):∀(ts:List Tm)(acc:List Str)(v3:Sl),(∀t∈ts,t.w)->(∀x∈acc,bO x=true)->acc.length+ts.length<=1000->
  ∃w3,turns (ar 3) CG (ts.map Tm.D) [v0,.ow (acc.map Pu.D.str),v2,v3]=.nx [v0,.ow ((gz acc (lu ts)).map Pu.D.str),v2,w3]/\(∀x∈gz acc (lu ts),bO x=true)
 |[],acc,v3,_,ha,_=>⟨v3,rfl,ha⟩
 |t::ts,acc,v3,ht,ha,hl=>by
  rw[aL]at hl;rw[aG,b8 (δ1:=[v0,.ow (acc.map Pu.D.str),v2,.pu t.D]) rfl];have ht':∀u∈ts,u.w:=λu hu=>ht u (aE _ hu);cases t with
  |i z=>
   have eb:CG [v0,.ow (acc.map Pu.D.str),v2,.pu (Tm.i z).D]=.nx [v0,.ow (acc.map Pu.D.str),v2,.pu (Tm.i z).D]:=by simp[CG,Tm.D]
   rw[eb];exact D1 v0 v2 ts acc _ ht' ha (by lia)
  |s x=>
   have hx:bO x=true:=ht _ aI;have hin:=(Ca ha hx).2;have hlt:acc.length<16777216:=by lia
   have eb:CG [v0,.ow (acc.map Pu.D.str),v2,.pu (Tm.s x).D]=.nx [v0,.ow ((if x∈acc then acc else acc++[x]).map Pu.D.str),v2,.pu (Tm.s x).D]:=by
    by_cases h:x∈acc
    ·simp[CG,Tm.D,hin,h]
    ·simp[CG,Tm.D,hin,h,hlt]
   rw[eb];have hde:gz acc (lu (.s x::ts))=gz (if x∈acc then acc else acc++[x]) (lu ts):=by
    show(if x∈acc then gz acc (lu ts)else gz (acc++[x]) (lu ts))=_
    by_cases h:x∈acc<;>simp[h]
   rw[hde];refine D1 v0 v2 ts _ _ ht' ?_ ?_
   ·split
    ·exact ha
    ·intro y hy;rcases List.mem_append.mp hy with hy|hy
     ·exact ha y hy
     ·rw[List.mem_singleton.mp hy];exact hx
   ·split
    ·lia
    ·rw[aU];simp;lia
def OM:En->Out:=c7 (ar 3) (a7 (g2 aj (ae 2) (gC (.int 1)))) CG
theorem wu:∀(a b acc:List Str),gz acc (a++b)=gz (gz acc a) b
 |[],_,_=>rfl
 |x::a,b,acc=>by
  show(if x∈acc then gz acc (a++b)else gz (acc++[x]) (a++b))=gz (if x∈acc then gz acc a else gz (acc++[x]) a) b
  by_cases h:x∈acc
  ·rw[aJ h,aJ h];exact wu a b acc
  ·rw[aK h,aK h];exact wu a b _
theorem D3(v0:Sl):∀(as:List At)(acc:List Str)(v2 v3:Sl),(∀a∈as,a.w/\a.ts.length<=4)->(∀x∈acc,bO x=true)->acc.length+4 * as.length<=900->
  ∃w2 w3,turns (ar 2) OM (as.map At.D) [v0,.ow (acc.map Pu.D.str),v2,v3]=.nx [v0,.ow ((gz acc (bc as)).map Pu.D.str),w2,w3]
 |[],acc,v2,v3,_,_,_=>⟨v2,v3,rfl⟩
 |a::as,acc,v2,v3,h,ha,hl=>by
  rw[aL]at hl;obtain⟨h1,h2⟩:=h a aI;obtain⟨w3,e,h3⟩:=D1 v0 (.pu a.D) a.ts acc v3 h1.2 ha (by lia);have eo:OM [v0,.ow (acc.map Pu.D.str),.pu a.D,v3]=.nx [v0,.ow ((gz acc (lu a.ts)).map Pu.D.str),.pu a.D,w3]:=(cu (ds:=a.ts.map Tm.D) (by simp[At.D])).trans e;have hlen:(gz acc (lu a.ts)).length<=acc.length+4:=by
   have q1:=ya (lu a.ts) acc;have q2:=q9 a.ts
   lia
  obtain⟨w2',w3',e'⟩:=D3 v0 as (gz acc (lu a.ts)) (.pu a.D) w3 (λb hb=>h b (aE _ hb)) h3 (by lia);refine⟨w2',w3',?_⟩;rw[aG,b8 (δ1:=[v0,.ow (acc.map Pu.D.str),.pu a.D,v3]) rfl,eo];dsimp only;rw[e'];have:bc (a::as)=lu a.ts++bc as:=by simp[bc]
  rw[this,wu]
def Gz(n:Nat)(b:Bool){as:List At}(h:∀a∈as,a.w/\a.ts.length<=4)(hl:as.length<=200):af (tab (n+1)) cy [if b then .tup (as.map At.D)else .lst (as.map At.D)]=.ok (.lst ((gz [] (bc as)).map Pu.D.str)):=by
 rw[By];cases b with
 |true=>
  obtain⟨w2,w3,e⟩:=D3 (.bo (.tup (as.map At.D))) as [] .no .no h (by simp) (by simp;lia);have hf:c7 (ar 2) (a7 (yd 0)) OM [.bo (.tup (as.map At.D)),.ow [],.no,.no]=.nx [.bo (.tup (as.map At.D)),.ow ((gz [] (bc as)).map Pu.D.str),w2,w3]:=(cu (ds:=as.map At.D) (by simp)).trans e;unfold OM CG at hf;simp[l9,hf]
 |false=>
  obtain⟨w2,w3,e⟩:=D3 (.bo (.lst (as.map At.D))) as [] .no .no h (by simp) (by simp;lia);have hf:c7 (ar 2) (a7 (yd 0)) OM [.bo (.lst (as.map At.D)),.ow [],.no,.no]=.nx [.bo (.lst (as.map At.D)),.ow ((gz [] (bc as)).map Pu.D.str),w2,w3]:=(cu (ds:=as.map At.D) (by simp)).trans e;unfold OM CG at hf;simp[l9,hf]
def TH(s:Sub)(xs:List Str):List (Str×Tm):=xs.map λx=>(x,(lk s x).getD (.s x))
def TJ(l:List (Str×Tm)):Pu.D:=.lst (l.map λp=>.tup [.str p.1,p.2.D])
def Cf:x∈lu ts↔Tm.s x∈ts:=by
 unfold lu;rw[List.mem_filterMap];constructor
 ·rintro ⟨t,ht,e⟩
  cases t with
  |s y=>cases e;exact ht
  |i z=>cases e
 ·exact λh=>⟨_,h,rfl⟩
def j4:x∈bc as↔∃a∈as,Tm.s x∈a.ts:=by
 unfold bc;rw[List.mem_flatMap];exact⟨λ⟨a,ha,h⟩=>⟨a,ha,Cf.mp h⟩,λ⟨a,ha,h⟩=>⟨a,ha,Cf.mpr h⟩⟩
theorem qf:∀(l acc:List Str),acc.Nodup->(gz acc l).Nodup
 |[],acc,h=>h
 |x::l,acc,h=>by
  unfold gz
  by_cases hx:x∈acc
  ·rw[aJ hx];exact qf l acc h
  ·rw[aK hx];refine qf l _ (List.nodup_append.mpr ⟨h,by simp,λa ha b hb=>?_⟩);rw[List.mem_singleton.mp hb];exact λz=>hx (z▸ha)
structure Askd(a:zh):Prop where
 h:∀t∈a.1,t.good
 g:∀x∈a.2,x.good
 hl:a.1.length<=4
 al:a.2.length<=6
def Askd.hw(A:Askd a):∀t∈a.1,t.w:=λt ht=>(A.h t ht).w
def Askd.aw(A:Askd a):∀x∈a.2,x.w:=λx hx=>(A.g x hx).w
def Askd.a4(A:Askd a):∀x∈a.2,x.w/\x.ts.length<=4:=λx hx=>⟨(A.g x hx).w,(A.g x hx).2.2.1⟩
def xq{as:List At}(h:∀a∈as,a.ts.length<=4):(bc as).length<=4 * as.length:=by
 induction as with
 |nil=>simp[bc]
 |cons a as ih=>
  have h1:=q9 a.ts;have h2:=h a aI;have h3:=ih λb hb=>h b (aE _ hb);unfold bc at h3⊢;rw[jU,aU,aL]
  lia
def r8(ts:List Tm):List Int:=ts.filterMap λt=>match t with
 |.s _=>none
 |.i z=>some z
def Iw:Pu.D->Option Pu.D
 |.int z=>some (.int z)
 |_=>none
theorem Jf:∀ts:List Tm,(ts.map Tm.D).filterMap Iw=(r8 ts).map Pu.D.int
 |[]=>rfl
 |.i z::ts=>by
  rw[aG,dE];show Pu.D.int z::(ts.map Tm.D).filterMap Iw=Pu.D.int z::(r8 ts).map Pu.D.int;rw[Jf ts]
 |.s x::ts=>by
  rw[aG,dE];exact Jf ts
def Sn{ts:List Tm}(hr:r W=.ok (ts.map Tm.D))(hl:ts.length<=1000):b9 r [] (gc (cv (g1 (ba "str") (ae 0)))) (a6 0) W=.ok (.lst ((r8 ts).map Pu.D.int)):=by
 rw[Dl (h:=Iw) hr (by rw[aF];show _<=16777216;lia) λd hd=>by
  obtain⟨t,_,rfl⟩:=List.mem_map.mp hd;cases t with
  |s x=>rw[zd (b:=false) (y:=.non) (by simp[cc,Tm.D]) (by simp)];rfl
  |i z=>rw[zd (b:=true) (y:=.int z) (by simp[cc,Tm.D]) (by simp[cc,Tm.D])];rfl,Jf]
def zc{as:List At}(h:∀a∈as,a.ts.length<=4):(p5 as).length<=4 * as.length:=by
 induction as with
 |nil=>simp[p5]
 |cons a as ih=>
  have h2:=h a aI;have h3:=ih λb hb=>h b (aE _ hb);unfold p5 at h3⊢;rw[jU,aU,aL]
  lia
def D9(n:Nat)(A:Askd a):af (tab (n+2)) fe [aD a]=.ok (.lst ((r8 (a.1++p5 a.2)).map Pu.D.int)):=by
 have hl:=A.hl;have al:=A.al;have tl:=zc λx hx=>(A.a4 x hx).2;have e1:=za n A.g (by lia) true;simp only[if_true]at e1;have k:ai (af (tab (n+1)) c9) (aa (g2 aj (ae 0) (gC (.int 1))) ah) [.bo (aD a)]=.ok (.lst ((p5 a.2).map Tm.D)):=rj (ds:=[.tup (a.2.map At.D)]) (by simp[aD,c8]) e1;have hz:(a.1.map Tm.D).length+((p5 a.2).map Tm.D).length<=aM:=by rw[aF,aF];show _<=16777216;lia
 have ad:a9 (.lst (a.1.map Tm.D)) (.lst ((p5 a.2).map Tm.D))=some (.lst ((a.1++p5 a.2).map Tm.D)):=by
  show(if _ then some (Pu.D.lst _)else none)=_;rw[aJ hz,dH]
 have hr:a7 (g2 a9 (g1 iy (g2 aj (ae 0) (gC (.int 0)))) (ai (af (tab (n+1)) c9) (aa (g2 aj (ae 0) (gC (.int 1))) ah))) [.bo (aD a)]=.ok ((a.1++p5 a.2).map Tm.D):=by
  rw[OV,GP,k];simp[aD,c8,iy,ad,-dH]
 have hc:=Sn hr (by rw[aU];lia);rw[Io];show df (bw _ _)=_;rw[Z0];exact(congrArg (λr=>df (r.then .rt)) hc).trans rfl
def mq(m:Int):Nat->List Str->Sub
 |_,[]=>[]
 |i,x::r=>(x,.i (m+(i:Int)))::mq m (i+1) r
theorem Ak(m:Int):∀(i:Nat)(xs:List Str),(mq m i xs).map (·.1)=xs
 |_,[]=>rfl
 |i,x::r=>by rw[mq,aG,Ak m (i+1) r]
theorem Q9(m:Int):∀(i:Nat){xs:List Str},x∈xs->∃z,lk (mq m i xs) x=some (.i z)
 |_,[],h=>by simp at h
 |i,y::r,h=>by
  unfold mq lk
  by_cases e:y=x
  ·rw[aJ e];exact⟨_,rfl⟩
  ·rw[aK e];rcases List.mem_cons.mp h with h|h
   ·exact absurd h.symm e
   ·exact Q9 m (i+1) h
theorem Hd(m:Int):∀(i:Nat)(xs:List Str),ma ((mq m i xs).map λp=>Pu.D.tup [.str p.1,p.2.D])=some ((mq m i xs).map λp=>(.inr p.1,p.2.D))
 |_,[]=>rfl
 |i,x::r=>by
  rw[mq,aG,aG];unfold ma;rw[Hd m (i+1) r];rfl
theorem Lr:∀(l acc:Sub),(acc.map (·.1)++l.map (·.1)).Nodup->Ai (sD acc) (l.map λp=>(.inr p.1,p.2.D))=sD (acc++l)
 |[],acc,_=>by simp[Ai]
 |(x,w)::l,acc,nd=>by
  have hno:lk acc x=none:=by
   have hx:x∉acc.map (·.1):=λhm=>(List.nodup_append.mp nd).2.2 x hm x (by simp) rfl;clear nd;induction acc with
   |nil=>rfl
   |cons p r ih=>
    obtain⟨y,u⟩:=p;simp only[aG,cR,not_or]at hx;show(if y=x then some u else lk r x)=none;rw[aK (λz=>hx.1 z.symm)];exact ih hx.2
  show Ai (pv (sD acc) (.inr x) w.D) (l.map λp=>(.inr p.1,p.2.D))=_;rw[Jl w hno,Lr l (acc++[(x,w)]) (by simpa using nd)];simp
theorem Gj(m:Int)(v0 v1:Sl):∀(i:Nat)(xs:List Str),lx (Bq [2] (iu (aa (a6 1) (aa (g2 a9 (ae 2) (ae 0)) ah))) [v0,v1,.pu (.int m)]) (mf i (xs.map Pu.D.str))=some ((mq m i xs).map λp=>Pu.D.tup [.str p.1,p.2.D])
 |_,[]=>rfl
 |i,x::r=>by
  rw[aG,mf];unfold lx;have e:Bq [2] (iu (aa (a6 1) (aa (g2 a9 (ae 2) (ae 0)) ah))) [v0,v1,.pu (.int m)] (.tup [.int (i:Int),.str x])=some (some (.tup [.str x,.int (m+(i:Int))])):=by
   simp[Bq,OJ]
  rw[e,Gj m v0 v1 (i+1) r];rfl
def L1(n:Nat){one other:zh}(A1:Askd one)(A2:Askd other):∃m:Int,af (tab (n+3)) cb [aD one,aD other]=.ok (.dct false (sD (mq m 0 (gz [] (bc one.2))))):=by
 have n1:=D9 n A1;have n2:=D9 n A2;have hl1:=A1.hl;have hl2:=A2.hl;have al1:=A1.al;have al2:=A2.al;have tl1:=zc λx hx=>(A1.a4 x hx).2;have tl2:=zc λx hx=>(A2.a4 x hx).2;have e1:=za (n+1) A1.g (by lia) true;simp only[if_true]at e1;have e2:=y7 (n+1) (p5 one.2) (by lia) false;simp only[Bool.false_eq_true,if_false]at e2;rw[J3]at e2;have nl:∀l:List Tm,(r8 l).length<=l.length:=λl=>iM ..;have q1:=nl (one.1++p5 one.2);have q2:=nl (other.1++p5 other.2);rw[aU]at q1 q2;have hz:((r8 (one.1++p5 one.2)).map Pu.D.int).length+((r8 (other.1++p5 other.2)).map Pu.D.int).length<=aM:=by rw[aF,aF];show _<=16777216;lia
 have ad:a9 (.lst ((r8 (one.1++p5 one.2)).map Pu.D.int)) (.lst ((r8 (other.1++p5 other.2)).map Pu.D.int))=some (.lst ((r8 (one.1++p5 one.2)++r8 (other.1++p5 other.2)).map Pu.D.int)):=by
  show(if _ then some (Pu.D.lst _)else none)=_;rw[aJ hz,dH]
 have iq:∀l:List Int,yg (l.map Pu.D.int)=some l:=λl=>by
  induction l with
  |nil=>rfl
  |cons i r ih=>rw[aG,yg,ih];rfl
 have mx:xn 0 (.lst ((r8 (one.1++p5 one.2)++r8 (other.1++p5 other.2)).map Pu.D.int))=some (.int (D6 0 (r8 (one.1++p5 one.2)++r8 (other.1++p5 other.2)))):=by
  show(yg _).map _=_;rw[iq];rfl
 generalize D6 0 (r8 (one.1++p5 one.2)++r8 (other.1++p5 other.2))=M at mx;have k1:ai (af (tab (n+2)) fe) (aa (ae 0) ah) [.bo (aD one),.bo (aD other),.no]=.ok (.lst ((r8 (one.1++p5 one.2)).map Pu.D.int)):=rj (ds:=[aD one]) (by simp) n1;have k2:ai (af (tab (n+2)) fe) (aa (ae 1) ah) [.bo (aD one),.bo (aD other),.no]=.ok (.lst ((r8 (other.1++p5 other.2)).map Pu.D.int)):=rj (ds:=[aD other]) (by simp) n2;have s1:bx 2 (g2 a9 (g1 (xn 0) (g2 a9 (ai (af (tab (n+2)) fe) (aa (ae 0) ah)) (ai (af (tab (n+2)) fe) (aa (ae 1) ah)))) (gC (.int 1))) [.bo (aD one),.bo (aD other),.no]=.nx [.bo (aD one),.bo (aD other),.pu (.int (M+1))]:=by
  rw[Z3,GP,OZ,GP,k1,k2];simp[ad,mx,-dH]
 have k3:ai (af (tab (n+2)) c9) (aa (g2 aj (ae 0) (gC (.int 1))) ah) [.bo (aD one),.bo (aD other),.pu (.int (M+1))]=.ok (.lst ((p5 one.2).map Tm.D)):=rj (ds:=[.tup (one.2.map At.D)]) (by simp[aD,c8]) e1;have k4:ai (af (tab (n+2)) di) (aa (ai (af (tab (n+2)) c9) (aa (g2 aj (ae 0) (gC (.int 1))) ah)) ah) [.bo (aD one),.bo (aD other),.pu (.int (M+1))]=.ok (.lst ((gz [] (bc one.2)).map Pu.D.str)):=rj (ds:=[.lst ((p5 one.2).map Tm.D)]) (by rw[Zx,k3];rfl) e2;have xl:(gz [] (bc one.2)).length<=24:=by
  have z1:=ya (bc one.2) [];have z2:=xq λa ha=>(A1.a4 a ha).2;simp at z1
  lia
 have nd:(gz [] (bc one.2)).Nodup:=qf _ _ fI;have hc:nq (tf (ai (af (tab (n+2)) di) (aa (ai (af (tab (n+2)) c9) (aa (g2 aj (ae 0) (gC (.int 1))) ah)) ah))) (Bq [2] (iu (aa (a6 1) (aa (g2 a9 (ae 2) (ae 0)) ah)))) [.bo (aD one),.bo (aD other),.pu (.int (M+1))]=.ok (.lst ((mq (M+1) 0 (gz [] (bc one.2))).map λp=>Pu.D.tup [.str p.1,p.2.D])):=by
  unfold nq tf;rw[k4];dsimp only[NV];rw[aJ (by rw[va,aF];show _<=16777216;lia),Gj]
 have hp:sa (.lst ((mq (M+1) 0 (gz [] (bc one.2))).map λp=>Pu.D.tup [.str p.1,p.2.D]))=some (.dct false (sD (mq (M+1) 0 (gz [] (bc one.2))))):=by
  have nl:(mq (M+1) 0 (gz [] (bc one.2))).length<=24:=by
   have:=congrArg iU (Ak (M+1) 0 (gz [] (bc one.2)));rw[aF]at this
   lia
  show(if _ then(ma _).map _ else none)=_;rw[aJ (by rw[aF];show _<=16777216;lia),Hd];show some (Pu.D.dct false (Ai (sD []) _))=_;rw[Lr _ [] (by rw[jB,fJ,Ak];exact nd),fJ]
 refine⟨M+1,?_⟩;rw[qg];show df (ao _ _ [.bo (aD one),.bo (aD other),.no])=_;rw[gy,s1];show df (bw (g1 sa _) _)=_;rw[Z0,OZ,hc];show df ((Res.of (sa _)).then .rt)=_;rw[hp];rfl
def md(s:Sub):Tm->Int
 |.i z=>z
 |.s x=>match lk s x with
  |some (.i z)=>z
  |_=>0
def Md(n:Nat){ts:List Tm}(hl:ts.length<=900)(h:∀x,Tm.s x∈ts->∃z,lk s x=some (.i z)):af (tab (n+1)) jj [.tup (ts.map Tm.D),.dct false (sD s)]=.ok (.tup ((ts.map (md s)).map Pu.D.int)):=by
 rw[Vy];have hc:b9 (a7 (ae 0)) [1] (gC (.bl true)) (Qq (cv (g1 (ba "str") (ae 0))) (g2 aj (ae 1) (ae 0)) (a6 0)) [.bo (.tup (ts.map Tm.D)),.bo (.dct false (sD s))]=.ok (.lst (ts.map λt=>Pu.D.int (md s t))):=
  m9 (f:=Tm.D) (by simp) (by lia) λt ht=>by
   cases t with
   |i z=>simp[cc,Tm.D,md]
   |s x=>
    obtain⟨z,ez⟩:=h x ht;have hn:=o7 x s;rw[ez]at hn;have hn':bg (sD s) (.inr x)=some (.int z):=hn;have hi:aj (.dct false (sD s)) (.str x)=some (.int z):=hn';simp[cc,Tm.D,md,hi,ez]
 have hm:(ts.map λt=>Pu.D.int (md s t))=(ts.map (md s)).map Pu.D.int:=by rw[bV];rfl
 rw[hm]at hc;simp[Kd,hc]
abbrev Fc:=Str×List Int
def fD(f:Fc):Pu.D:=.tup [.str f.1,.tup (f.2.map Pu.D.int)]
def fK(f:Fc):L2.bf:=[.inl (.inr f.1),.inr (f.2.map kI)]
def Wy(f:Fc):kT (fK f)=fD f:=by
 show Pu.D.tup [.str f.1,.tup ((f.2.map kI).map kD)]=_;rw[bV];rfl
def Ae(f:Fc):jg (fD f)=some (fK f):=by rw[<-Wy];exact qo _
def V7(h:fK f=fK g):f=g:=by
 obtain⟨x,a⟩:=f;obtain⟨y,b⟩:=g;unfold fK at h;simp only[List.cons.injEq,Sum.inl.injEq,Sum.inr.injEq,and_true]at h;obtain⟨h1,h2⟩:=h;have:a=b:=by
  clear h1;induction a generalizing b with
  |nil=>cases b with
   |nil=>rfl
   |cons _ _=>cases h2
  |cons i r ih=>cases b with
   |nil=>cases h2
   |cons j t=>
    rw[aG,aG]at h2;injection h2 with z1 z2
    rw[pE z1,ih t z2]
 rw[h1,this]
def Lc(F:List Fc):List (Pu.D×Pu.D):=F.map λf=>(fD f,.bl true)
def Wh(F:List Fc)(f:Fc):Ac (Lc F) (fK f)=decide (f∈F):=by
 unfold Ac Lc;induction F with
 |nil=>rfl
 |cons g F ih=>
  rw[aG,fQ,ih,Ae]
  by_cases h:f=g
  ·subst h;simp
  ·have h':¬(some (fK g)=some (fK f)):=λe=>h (V7 (bM e)).symm;rw[decide_eq_false h'];simp[h]
def Ys(F:List Fc)(f:Fc):Yr (Lc F) (fK f) (.bl true)=Lc (if f∈F then F else F++[f]):=by
 unfold Yr;rw[Wh]
 by_cases h:f∈F
 ·rw[aJ (decide_eq_true h),aJ h];unfold Lc;rw[bV];refine eQ λg _=>?_;show(if jg (fD g)=some (fK f)then(fD g,Pu.D.bl true)else(fD g,.bl true))=_;split<;>rfl
 ·rw[aK (by simp[h]),aK h,Wy];unfold Lc;rw[dH];rfl
def t6(F:List Fc):List Fc->List Fc
 |[]=>F
 |f::r=>t6 (if f∈F then F else F++[f]) r
theorem wj:∀(l F:List Fc),F.Nodup->(t6 F l).Nodup
 |[],F,h=>h
 |f::l,F,h=>by
  unfold t6;refine wj l _ ?_;split
  ·exact h
  ·rename_i hf;refine List.nodup_append.mpr ⟨h,by simp,λa ha b hb=>?_⟩;rw[List.mem_singleton.mp hb];exact λz=>hf (z▸ha)
theorem Cs:∀(l F:List Fc),(t6 F l).length<=F.length+l.length
 |[],F=>by simp[t6]
 |f::l,F=>by
  unfold t6;have:=Cs l (if f∈F then F else F++[f]);split at this
  ·simp;rename_i h;rw[aJ h];lia
  ·rename_i h;rw[aK h];simp at this⊢;lia
theorem Ct:∀(l F:List Fc),(∀f∈F,bO f.1=true)->(∀f∈l,bO f.1=true)->∀f∈t6 F l,bO f.1=true
 |[],F,h,_=>h
 |g::l,F,h,k=>by
  unfold t6;refine Ct l _ ?_ λf hf=>k f (aE _ hf);split
  ·exact h
  ·intro f hf;rcases List.mem_append.mp hf with hf|hf
   ·exact h f hf
   ·rw[List.mem_singleton.mp hf];exact k g aI
def Kx(h:wy x c=wy y d):x=y/\c=d:=by
 have l1:=B7 x.cps.toList y.cps.toList c d;have l2:=B7 y.cps.toList x.cps.toList d c;have n1:¬(x.cps.toList.map eV++(-1)::c<y.cps.toList.map eV++(-1)::d):=λz=>by
  have h':x.cps.toList.map eV++(-1)::c=y.cps.toList.map eV++(-1)::d:=h;rw[h']at z;exact kE _ z
 have n2:¬(y.cps.toList.map eV++(-1)::d<x.cps.toList.map eV++(-1)::c):=λz=>by
  have h':x.cps.toList.map eV++(-1)::c=y.cps.toList.map eV++(-1)::d:=h;rw[h']at z;exact kE _ z
 have m1:=λz=>n1 (l1.mpr z);have m2:=λz=>n2 (l2.mpr z);have ex:x.cps.toList=y.cps.toList:=by
  by_cases q:x.cps.toList=y.cps.toList
  ·exact q
  ·exact absurd (.inl (kY (λz=>m1 (.inl z)) (dX q))) m2
 refine⟨Rx ex,?_⟩
 by_cases q:c=d
 ·exact q
 ·exact absurd (.inr ⟨ex.symm,kY (λz=>m1 (.inr ⟨ex,z⟩)) (dX q)⟩) m2
theorem Du:∀{F:List Fc},(∀f∈F,bO f.1=true)->ko (F.map fD)=some (F.map λf=>wy f.1 f.2)
 |[],_=>rfl
 |f::F,h=>by
  have iL:∀l:List Int,qm (l.map Pu.D.int)=some l:=λl=>by
   induction l with
   |nil=>rfl
   |cons i r ih=>rw[aG,qm,ih];rfl
  have e:N9 (fD f)=some (wy f.1 f.2):=by
   show(if bO f.1 then(qm (f.2.map Pu.D.int)).map (wy f.1)else none)=_;rw[aJ (h f aI),iL];rfl
  rw[aG,ko,e,Du λg hg=>h g (aE _ hg)];rfl
def Jv{F:List Fc}(nd:F.Nodup)(hw:∀f∈F,bO f.1=true)(hl:F.length<64):∃d,oh (.dct true (Lc F))=some d:=by
 have ek:(Lc F).map (·.1)=F.map fD:=by unfold Lc;rw[bV];rfl
 show∃d,(gx ((Lc F).map (·.1))).map Pu.D.lst=some d;rw[ek];unfold gx
 by_cases h2:(F.map fD).length<2
 ·rw[aJ h2];exact⟨_,rfl⟩
 ·rw[aK h2,aJ (by rw[aF];exact hl)];have ka:j9 (F.map fD)=none:=by
   cases F with
   |nil=>simp at h2
   |cons f r=>rw[aG];rfl
  have e:i5 (F.map fD)=some (2,F.map λf=>wy f.1 f.2):=by
   unfold i5;rw[ka,Du hw];rfl
  rw[e];dsimp only;have q:(F.map λf=>wy f.1 f.2).Nodup:=by
   rw[List.Nodup,jP];refine lR (λ{a b} hab he=>?_) nd;obtain⟨z1,z2⟩:=Kx he;exact hab (Prod.ext z1 z2)
  rw[aJ q];exact⟨_,rfl⟩
def OS(p:List Pu.D->Res):En->Out:=(xo 3 (iu (aa (g2 aj (ae 4) (gC (.int 0))) (aa (ai p (aa (g2 aj (ae 4) (gC (.int 1))) (aa (ae 2) ah))) ah))) (gC (.bl true)))
theorem P6(v0 v1:Sl):∀(as:List At)(F:List Fc)(v4:Sl),(∀a∈as,p [.tup (a.ts.map Tm.D),P]=.ok (.tup ((a.ts.map v).map Pu.D.int)))->F.length+as.length<=1000->
  ∃w4,turns (ar 4) (OS p) (as.map At.D) [v0,v1,.pu P,.od true (Lc F),v4]=.nx [v0,v1,.pu P,.od true (Lc (t6 F (as.map λa=>(a.nm,a.ts.map v)))),w4]
 |[],F,v4,_,_=>⟨v4,rfl⟩
 |a::as,F,v4,h,hl=>by
  rw[aL]at hl;have h1:=h a aI;have hlt:(Lc F).length<aM:=by unfold Lc;rw[aF];show _<16777216;lia
  have hk:=Ae (a.nm,a.ts.map v);have hk':jg (.tup [.str a.nm,.tup ((a.ts.map v).map Pu.D.int)])=some (fK (a.nm,a.ts.map v)):=hk;have eb:OS p [v0,v1,.pu P,.od true (Lc F),.pu a.D]=.nx [v0,v1,.pu P,.od true (Lc (if(a.nm,a.ts.map v)∈F then F else F++[(a.nm,a.ts.map v)])),.pu a.D]:=by
   rw[<-Ys];simp[OS,xo,At.D,h1,hk',hlt,-bV]
  have hle:(if(a.nm,a.ts.map v)∈F then F else F++[(a.nm,a.ts.map v)]).length<=F.length+1:=by split<;>simp
  obtain⟨w4,e⟩:=P6 (P:=P) (v:=v) v0 v1 as (if(a.nm,a.ts.map v)∈F then F else F++[(a.nm,a.ts.map v)]) (.pu a.D) (λb hb=>h b (aE _ hb)) (by lia);refine⟨w4,?_⟩;rw[aG,b8 (δ1:=[v0,v1,.pu P,.od true (Lc F),.pu a.D]) rfl,eb];exact e
def WK(nf p:List Pu.D->Res):En->Out:=(ao (bx 2 (ai nf (aa (ae 0) (aa (ae 1) ah))))
 (ao (Eo 3)
 (ao (c7 (ar 4) (a7 (g2 aj (ae 0) (gC (.int 1)))) (OS p))
 (bw (iu (aa (gC (.str "book")) (aa (g1 oh (ae 3)) (aa (ai p (aa (g2 aj (ae 0) (gC (.int 0))) (aa (ae 2) ah))) ah))))))))
def JY(e1:nf [.tup [h1,a1],O]=.ok P)
  (e2:c7 (ar 4) (a7 (g2 aj (ae 0) (gC (.int 1)))) (OS p) [.bo (.tup [h1,a1]),.bo O,.pu P,.od true [],.no]=.nx [.bo (.tup [h1,a1]),.bo O,.pu P,.od true kvs,w4])(e3:oh (.dct true kvs)=some S)(e4:p [h1,P]=.ok R):
  WK nf p [.bo (.tup [h1,a1]),.bo O,.no,.no,.no]=.rt (.tup [.str "book",S,R]):=by
 unfold WK;simp[e1,Eo,e2,e3,e4]
def AH(n:Nat){one other:zh}(A1:Askd one)(A2:Askd other)(hi:Cp one):∃S R,af (tab (n+4)) gu [aD one,aD other]=.ok (.tup [.str "book",S,R]):=by
 obtain⟨m,e1⟩:=L1 n A1 A2;have hl:=A1.hl;have al:=A1.al;have lks:∀{x:Str},x∈bc one.2->∃z,lk (mq m 0 (gz [] (bc one.2))) x=some (.i z):=λ{x} hx=>Q9 m 0 ((jt x _ []).mpr (.inr hx));have pa:∀a∈one.2,af (tab (n+3)) jj [.tup (a.ts.map Tm.D),.dct false (sD (mq m 0 (gz [] (bc one.2))))]=.ok (.tup ((a.ts.map (md (mq m 0 (gz [] (bc one.2))))).map Pu.D.int)):=λa ha=>Md (n+2) (by have:=(A1.a4 a ha).2;lia) λx hx=>lks (j4.mpr ⟨a,ha,hx⟩);have ph:=Md (n+2) (s:=mq m 0 (gz [] (bc one.2))) (ts:=one.1) (by lia) λx hx=>lks (j4.mpr (hi.2 x hx));obtain⟨w4,e⟩:=P6 (p:=af (tab (n+3)) jj) (P:=.dct false (sD (mq m 0 (gz [] (bc one.2))))) (v:=md (mq m 0 (gz [] (bc one.2)))) (.bo (aD one)) (.bo (aD other)) one.2 [] .no pa (by simp;lia);have e2:c7 (ar 4) (a7 (g2 aj (ae 0) (gC (.int 1)))) (OS (af (tab (n+3)) jj)) [.bo (aD one),.bo (aD other),.pu (.dct false (sD (mq m 0 (gz [] (bc one.2))))),.od true [],.no]=_:=(cu (ds:=one.2.map At.D) (by simp[aD,c8])).trans e;obtain⟨S,e3⟩:=Jv (F:=t6 [] (one.2.map λa=>(a.nm,a.ts.map (md (mq m 0 (gz [] (bc one.2))))))) (wj _ _ fI) (Ct _ _ (by simp) λf hf=>by
  obtain⟨a,ha,rfl⟩:=List.mem_map.mp hf;exact(A1.aw a ha).1) (by
   have:=Cs (one.2.map λa=>(a.nm,a.ts.map (md (mq m 0 (gz [] (bc one.2)))))) [];rw[aF]at this;simp at this
   lia)
 refine⟨S,.tup ((one.1.map (md (mq m 0 (gz [] (bc one.2))))).map Pu.D.int),?_⟩;rw[Dg];have hb:t9 (n+3)=WK (af (tab (n+3)) cb) (af (tab (n+3)) jj):=rfl;rw[hb];exact congrArg df (JY (nf:=af (tab (n+3)) cb) (p:=af (tab (n+3)) jj) (h1:=.tup (one.1.map Tm.D)) (a1:=.tup (one.2.map At.D)) (O:=aD other) e1 e2 e3 ph)
def VB(p f:List Pu.D->Res):En->Out:=(ao (bx 2 (ai p (aa (gC (.dct false [])) (aa (g2 aj (ae 1) (gC (.int 0))) (aa (g2 aj (ae 0) (gC (.int 0))) ah)))))
 (fz [2] (bw (Qq (g2 tj (ae 2) (gC .non)) (gC .non) (ai f (aa (g2 aj (ae 1) (gC (.int 1))) (aa (g2 aj (ae 0) (gC (.int 1))) (aa (a6 2) ah))))))))
def OU(e1:p [.dct false [],h2,h1]=.ok (rD r))(e2:∀s,r=some s->f [a2,a1,.dct false (sD s)]=.ok (rD (g s))):
  VB p f [.bo (.tup [h1,a1]),.bo (.tup [h2,a2]),.no]=.rt (rD (r.bind g)):=by
 cases r with
 |none=>
  have e1':p [.dct false [],h2,h1]=.ok .non:=e1;simp[VB,e1',l0,rD]
 |some s=>
  have e1':p [.dct false [],h2,h1]=.ok (.dct false (sD s)):=e1;have e2':=e2 s rfl;simp[VB,e1',l0,e2']
def Ux(n:Nat){one other:zh}(A1:Askd one)(A2:Askd other):af (tab (n+9)) qc [aD one,aD other]=.ok (rD (M7 one other)):=by
 have hl:=A2.hl;have al:=A2.al;rw[Sy];have hb:F7 (n+8)=VB (af (tab (n+8)) ck) (af (tab (n+8)) dh):=rfl;rw[hb];refine congrArg df (OU (p:=af (tab (n+8)) ck) (f:=af (tab (n+8)) dh) (h1:=.tup (one.1.map Tm.D)) (a1:=.tup (one.2.map At.D)) (h2:=.tup (other.1.map Tm.D)) (a2:=.tup (other.2.map At.D)) (Dj (n+7) (s:=[]) A2.hw A1.hw (by intro p hp;cases hp) (by simp;lia)) λs es=>?_);obtain⟨b1,b2⟩:=DF (s:=[]) (by intro p hp;cases hp) A1.hw es;have q:=K0 one.2 A1.aw other.2 s (n+6 - other.2.length) A2.a4 b1 (by simp at b2;lia);rw[show n+6 - other.2.length+other.2.length+2=n+8 by lia]at q;exact q
def Sh(a:At):Prop:=(a.nm="r"/\a.ts.length=2)\/(a.nm="s"/\a.ts.length=3)\/(a.nm="t"/\a.ts.length=1)
def Sh.len{a b:At}(h:Sh a)(k:Sh b)(e:a.nm=b.nm):a.ts.length=b.ts.length:=by
 have n1:("r":Str)≠"s":=by decide+kernel
 have n2:("r":Str)≠"t":=by decide+kernel
 have n3:("s":Str)≠"t":=by decide+kernel
 rcases h with ⟨h1,h2⟩|⟨h1,h2⟩|⟨h1,h2⟩<;>rcases k with ⟨k1,k2⟩|⟨k1,k2⟩|⟨k1,k2⟩<;>rw[h1,k1]at e<;>
  first
  |exact h2.trans k2.symm
  |exact absurd e n1
  |exact absurd e n2
  |exact absurd e n3
  |exact absurd e.symm n1
  |exact absurd e.symm n2
  |exact absurd e.symm n3
theorem Cg:∀(as:List At)(kvs:List (Pu.D×Pu.D)),(∀a∈as,Sh a)->(∀a∈as,∀d,bg kvs (.inr a.nm)=some d->d=.int (a.ts.length:Nat))->B4 kvs as=true
 |[],_,_,_=>rfl
 |a::as,kvs,h,k=>by
  unfold B4;cases e:bg kvs (.inr a.nm)with
  |some d=>
   have:=k a aI d e;subst this;dsimp only;rw[aJ rfl];exact Cg as kvs (λb hb=>h b (aE _ hb)) λb hb=>k b (aE _ hb)
  |none=>
   dsimp only;refine Cg as _ (λb hb=>h b (aE _ hb)) λb hb d hd=>?_;rw[qp e]at hd;split at hd
   ·rename_i z;cases hd;have:b.nm=a.nm:=Sum.inr.inj z;rw[(h b (aE _ hb)).len (h a aI) this]
   ·exact k b (aE _ hb) d hd
structure GA(a:zh):Prop extends Askd a where
 sh:∀x∈a.2,Sh x
def GA.pt(A:GA a):PT (.tup (a.1.map Tm.D)) (.tup (a.2.map At.D)) where
 h0:=.tup _
 h1:=λds e=>by
  cases e;refine⟨by rw[aF];have:=A.hl;lia,λx hx=>?_⟩;obtain⟨t,ht,rfl⟩:=List.mem_map.mp hx;exact(Tm.good_T0 (A.h t ht)).1
 a0:=.tup _
 a1:=λds e=>by
  cases e;refine⟨by rw[aF];have:=A.al;lia,λx hx=>?_⟩;obtain⟨b,hb,rfl⟩:=List.mem_map.mp hx;exact At.good_AT (A.g b hb)
def E3(a:zh):FC a.1 a.2=Jy a:=by
 rw[Jx,Bool.eq_iff_iff,fP];unfold Jy;rw[fP];constructor
 ·intro h t ht;cases t with
  |i z=>rfl
  |s x=>
   have:=of_decide_eq_true (h x (Cf.mpr ht));obtain⟨b,hb,m⟩:=j4.mp this;exact List.any_eq_true.mpr ⟨b,hb,List.any_eq_true.mpr ⟨_,m,decide_eq_true rfl⟩⟩
 ·intro h x hx;have:=h _ (Cf.mp hx);obtain⟨b,hb,m⟩:=List.any_eq_true.mp this;obtain⟨t,ht,e⟩:=List.any_eq_true.mp m;have e':=of_decide_eq_true e;exact decide_eq_true (j4.mpr ⟨b,hb,e'▸ht⟩)
def Vn(n:Nat)(A:GA a):af (tab (n+6)) cf [aD a]=if j8 a then .ok (aD a)else .er "NoAsking":=by
 by_cases h:a.2=[]
 ·have e:j8 a=false:=by unfold j8;rw[h];rfl
  rw[e];refine PB n A.pt ?_;rw[h];rfl
 ·have l:1<=a.2.length:=by cases q:a.2 with
   |nil=>exact absurd q h
   |cons _ _=>simp
  have e:j8 a=FC a.1 a.2:=by
   unfold j8;rw[E3];cases q:a.2 with
   |nil=>exact absurd q h
   |cons _ _=>rfl
  rw[e];exact QZ n A.pt A.h A.g A.hl l A.al (Cg a.2 [] A.sh λb _ d hd=>by cases hd)
def CP(n:Nat){hs:List Pu.D}(l1:hs.length<=4):af (tab (n+3)) cx [.tup [.tup hs,.tup []]]=.ok (.bl false):=by
 rw[sr];have a1:¬(4:Int)<(hs.length:Int):=by lia
 simp[jr,a1]
def CQ(n:Nat)(A:GA a):af (tab (n+3)) cx [aD a]=.ok (.bl (j8 a)):=by
 have l1:(a.1.map Tm.D).length<=4:=by rw[aF];exact A.hl
 by_cases h:a.2=[]
 ·have e:j8 a=false:=by unfold j8;rw[h];rfl
  rw[e];show af (tab (n+3)) cx [.tup [.tup (a.1.map Tm.D),.tup (a.2.map At.D)]]=_;rw[h];exact CP n l1
 ·have l:1<=a.2.length:=by cases q:a.2 with
   |nil=>exact absurd q h
   |cons _ _=>simp
  have e:j8 a=FC a.1 a.2:=by
   unfold j8;rw[E3];cases q:a.2 with
   |nil=>exact absurd q h
   |cons _ _=>rfl
  have al:=A.al;have l2:1<=(a.2.map At.D).length:=by rw[aF];exact l
  have l3:(a.2.map At.D).length<=6:=by rw[aF];exact al
  have hx:=(A.pt.h1 _ rfl).2;have o:=Cg a.2 [] A.sh λb _ d hd=>by cases hd
  rcases CT n (.bo (.tup [.tup (a.1.map Tm.D),.tup (a.2.map At.D)])) a.2 [] [] [] .no A.g (by intro x d z;cases z) (λ_=>rfl) (by simp;lia) (by simp;lia)with ⟨o1,kvs2,w3,t1⟩|⟨o1,t1⟩
  ·rw[fJ]at t1;rcases CI (n+1) (vm A.g) (.bo (.tup [.tup (a.1.map Tm.D),.tup (a.2.map At.D)])) (.od false kvs2) w3 (a.1.map Tm.D) .no hx with ⟨b1,w4,t2⟩|⟨b1,t2⟩
   ·have hl:=Q1 n l1 l2 l3 t1 ((cu (ds:=a.1.map Tm.D) (by simp)).trans t2) (.inl ⟨_,rfl⟩);rw[B8 A.h,<-Jx]at b1;rw[e,b1];exact hl
   ·have hl:=Q1 n l1 l2 l3 t1 ((cu (ds:=a.1.map Tm.D) (by simp)).trans t2) (.inr rfl);rw[B8 A.h,<-Jx]at b1;rw[e,b1];exact hl
  ·rw[o]at o1;cases o1
def GY(ds:List Pu.D)(p:Nat):o9 (.tup ds) none (some (p:Int))=some (.tup (ds.take p)):=by
 show some (Pu.D.tup (zx ds none (some (p:Int))))=_;unfold zx;rw[HT.Em,HT.Jq,kH,Nat.sub_zero]
 congr 2
 rw[<-List.take_eq_take_min]
def GZ(ds:List Pu.D)(p:Nat):o9 (.tup ds) (some (p:Int)) none=some (.tup (ds.drop p)):=by
 show some (Pu.D.tup (zx ds (some (p:Int)) none))=_;unfold zx;rw[HT.Em,HT.Jq]
 congr 2
 by_cases h:p<=ds.length
 ·rw[Nat.min_eq_left h,List.take_of_length_le (by rw[dR];lia)]
 ·rw[Nat.min_eq_right (by lia),oG,List.take_nil,List.drop_eq_nil_of_le (by lia)]
def Ul(ds:List Pu.D)(p:Nat):o9 (.tup ds) (some ((p:Int)+1)) none=some (.tup (ds.drop (p+1))):=by
 rw[show((p:Int)+1)=((p+1:Nat):Int) by lia];exact GZ ds (p+1)
def bound{one other:zh}{s:Sub}(h:M7 one other=some s){x:Str}(hx:x∈bc other.2):∃v,lk s x=some v:=by
 obtain⟨a,ha,m⟩:=j4.mp hx;obtain⟨t,_,_,e⟩:=(M0 h).2 a ha;obtain⟨i,hi⟩:=List.mem_iff_getElem?.mp m;have q:=congrArg (λl=>l[i]?) e;simp only[bN,hi,fW]at q;cases z:t.2[i]? with
 |none=>rw[z]at q;cases q
 |some w=>rw[z]at q;exact⟨w,(bM q:U0 s (Tm.s x)=some w)⟩
def TF(c w b si t:List Pu.D->Res):En->Out:=(ao (fz [0] (yu (ai c (aa (a6 0) ah))))
 (ao (fz [1] (yu (ai c (aa (a6 1) ah))))
 (ao (i9 (g2 fx (g1 bu (g2 aj (ae 0) (gC (.int 0)))) (g1 bu (g2 aj (ae 1) (gC (.int 0))))) (kc "Unlike" (aa (gC (.str "the heads have unlike many terms")) ah)) cn)
 (ao (bx 2 (ai w (aa (ae 0) (aa (ae 1) ah))))
 (ao (i9 (g2 tj (ae 2) (gC .non)) (bw (ai b (aa (ae 0) (aa (ae 1) ah)))) cn)
 (bw (iu (aa (gC (.str "way")) (aa (b9 (a7 (ai si (aa (ai t (aa (g2 aj (ae 1) (gC (.int 1))) ah)) ah))) [2] (gC (.bl true)) (iu (aa (a6 0) (aa (g2 aj (ae 1) (ae 0)) ah)))) ah)))))))))
def GG{h1 h2:List Pu.D}(e1:c [.tup [.tup h1,a1]]=.ok (.tup [.tup h1,a1]))(e2:c [.tup [.tup h2,a2]]=.ok (.tup [.tup h2,a2]))(hl:h1.length=h2.length)
  (e3:w [.tup [.tup h1,a1],.tup [.tup h2,a2]]=.ok .non)(e4:b [.tup [.tup h1,a1],.tup [.tup h2,a2]]=.ok R):TF c w b si t [.pu (.tup [.tup h1,a1]),.pu (.tup [.tup h2,a2]),.no]=.rt R:=by
 unfold TF;simp[e1,e2,hl,e3,e4,yu,l0]
def GF{c w b si t:List Pu.D->Res}{h1 h2:List Pu.D}{a1 a2 T:Pu.D}{kvs:List (Pu.D×Pu.D)}{xs:List Str}{f:Str->Pu.D}(e1:c [.tup [.tup h1,a1]]=.ok (.tup [.tup h1,a1]))(e2:c [.tup [.tup h2,a2]]=.ok (.tup [.tup h2,a2]))(hl:h1.length=h2.length)
  (e3:w [.tup [.tup h1,a1],.tup [.tup h2,a2]]=.ok (.dct false kvs))(e4:t [a2]=.ok T)(e5:si [T]=.ok (.lst (xs.map Pu.D.str)))(hx:xs.length<=1000)(e6:∀x∈xs,bg kvs (.inr x)=some (f x)):
  TF c w b si t [.pu (.tup [.tup h1,a1]),.pu (.tup [.tup h2,a2]),.no]=.rt (.tup [.str "way",.lst (xs.map λx=>.tup [.str x,f x])]):=by
 have hc:b9 (a7 (ai si (aa (ai t (aa (g2 aj (ae 1) (gC (.int 1))) ah)) ah))) [2] (gC (.bl true)) (iu (aa (a6 0) (aa (g2 aj (ae 1) (ae 0)) ah))) [.pu (.tup [.tup h1,a1]),.pu (.tup [.tup h2,a2]),.pu (.dct false kvs)]=.ok (.lst (xs.map λx=>.tup [.str x,f x])):=
  m9 (f:=Pu.D.str) (by simp[e4,e5]) (by lia) λx hx'=>by
   have q:aj (.dct false kvs) (.str x)=some (f x):=e6 x hx';simp[cc,q]
 unfold TF;simp[e1,e2,hl,e3,yu,l0,hc]
def Ht(n:Nat):Ke n=TF (af (tab n) cf) (af (tab n) qc) (af (tab n) gu) (af (tab n) di) (af (tab n) c9):=rfl
def PF(d:Pu.D):Prop:=∃S R,d=.tup [.str "book",S,R]
def Uy(n:Nat){one other:zh}(A1:GA one)(A2:GA other)(i1:j8 one=true)(i2:j8 other=true)(hl:one.1.length=other.1.length):
  (∀s,M7 one other=some s->af (tab (n+10)) ic [aD one,aD other]=.ok (.tup [.str "way",TJ (TH s (gz [] (bc other.2)))]))/\(M7 one other=none->∃d,PF d/\af (tab (n+10)) ic [aD one,aD other]=.ok d):=by
 have c1:=Vn (n+3) A1;have c2:=Vn (n+3) A2;rw[i1,aJ rfl]at c1;rw[i2,aJ rfl]at c2;have w:=Ux n A1.toAskd A2.toAskd;have al:=A2.al;constructor
 ·intro s hs;rw[hs]at w;have e4:=za (n+8) A2.g (by lia) true;simp only[if_true]at e4;have tl:=zc λx hx=>(A2.a4 x hx).2;have e5:=y7 (n+8) (p5 other.2) (by lia) false;simp only[Bool.false_eq_true,if_false]at e5;rw[J3]at e5;rw[Ku,Ht];have xl:(gz [] (bc other.2)).length<=1000:=by
   have q1:=ya (bc other.2) [];have q2:=xq λa ha=>(A2.a4 a ha).2;simp at q1
   lia
  have r:=GF (b:=af (tab (n+9)) gu) (a1:=.tup (one.2.map At.D)) (a2:=.tup (other.2.map At.D)) (f:=λx=>((lk s x).getD (.s x)).D) c1 c2 (by rw[aF,aF];exact hl) w e4 e5 xl λx hx=>by
   obtain⟨v,ev⟩:=bound hs (by simpa using(jt x _ []).mp hx);rw[o7,ev];rfl
  refine(congrArg df r).trans ?_;show Res.ok _=_
  congr 3
  unfold TJ TH;rw[bV];rfl
 ·intro hs;rw[hs]at w;obtain⟨S,R,e⟩:=AH (n+5) A1.toAskd A2.toAskd ((rn _).mp i1);refine⟨_,⟨S,R,rfl⟩,?_⟩;rw[Ku,Ht];exact congrArg df (GG (a1:=.tup (one.2.map At.D)) (a2:=.tup (other.2.map At.D)) c1 c2 (by rw[aF,aF];exact hl) w e)
def AZ:dj (.str "book") (.str "way")=some (.bl false):=by kernel_rfl
def GH:dj (.str "way") (.str "way")=some (.bl true):=by kernel_rfl
def Tr:fx (.str "book") (.str "way")=some (.bl true):=by kernel_rfl
def Xl:fx (.str "way") (.str "way")=some (.bl false):=by kernel_rfl
def rh(n:Nat){one other:zh}(A1:GA one)(A2:GA other)(i1:Cp one)(i2:Cp other)(hl:one.1.length=other.1.length):∃d x,af (tab (n+10)) ic [aD one,aD other]=.ok d/\aj d (.int 0)=some x/\dj x (.str "way")=some (.bl (M7 one other).isSome)/\fx x (.str "way")=some (.bl (!(M7 one other).isSome)):=by
 obtain⟨h1,h2⟩:=Uy n A1 A2 ((rn _).mpr i1) ((rn _).mpr i2) hl;cases e:M7 one other with
 |some s=>exact⟨_,.str "way",h1 s e,rfl,GH,Xl⟩
 |none=>
  obtain⟨d,⟨S,R,rfl⟩,h⟩:=h2 e;exact⟨_,.str "book",h,rfl,AZ,Tr⟩
def KZ(k m:Nat):List Pu.D:=(List.range' k m).map λ(i:Nat)=>Pu.D.int (0+(i:Int))
def Wx(k m:Nat):KZ k (m+1)=.int (0+(k:Int))::KZ (k+1) m:=by unfold KZ;rw[List.range'_succ,aG]
def U2:En->Out:=(i9 (gc (cv (g1 (ba "str") (g2 aj (ae 1) (ae 4))))) (i9 (g2 fx (g2 aj (ae 1) (ae 4)) (g2 aj (ae 2) (ae 4))) (bw (gC .non)) cn) (i9 (g2 b0 (g2 aj (ae 1) (ae 4)) (ae 3)) (Ao 3 (g2 aj (ae 1) (ae 4)) (g2 aj (ae 2) (ae 4))) (i9 (g2 fx (g2 aj (ae 3) (g2 aj (ae 1) (ae 4))) (g2 aj (ae 2) (ae 4))) (bw (gC .non)) cn)))
def CL{t w:Tm}{s:Sub}(hT:aj (.tup T) (.int z)=some t.D)(hW:aj (.tup W) (.int z)=some w.D)(ht:t.w)(hw:w.w)(hs:s.w)(hl:s.length<16777216):
  U2 [v0,.bo (.tup T),.bo (.tup W),.od false (sD s),.pu (.int z)]=match pf s [t] [w]with
   |some s'=>.nx [v0,.bo (.tup T),.bo (.tup W),.od false (sD s'),.pu (.int z)]
   |none=>.rt .non:=by
 have ne:=Lw ht hw;cases t with
 |i i=>
  rw[LN,xj];have hT':aj (.tup T) (.int z)=some (.int i):=hT;have ne':fx (.int i) w.D=some (.bl (!decide (Tm.i i=w))):=ne
  by_cases e:Tm.i i=w
  ·rw[aJ e];rw[decide_eq_true e]at ne';simp[U2,hT',hW,ne']
  ·rw[aK e];rw[decide_eq_false e]at ne';simp[U2,hT',hW,ne']
 |s x=>
  have hT':aj (.tup T) (.int z)=some (.str x):=hT;have hlk:=o7 x s;rw[LM];cases e:lk s x with
  |none=>
   rw[e]at hlk;have hn:b0 (.str x) (.dct false (sD s))=some (.bl true):=by
    show(some (kW x)).map (λj=>Pu.D.bl !(bg (sD s) j).isSome)=_;rw[fW,hlk];rfl
   have hsl:(sD s).length<aM:=by rw[O1];exact hl
   have hp:=Jl w e;dsimp only;rw[xj];simp[U2,hT',hW,hn,Ao,BE,yt,bz,hsl,hp]
  |some v=>
   rw[e]at hlk;have hn:b0 (.str x) (.dct false (sD s))=some (.bl false):=by
    show(some (kW x)).map (λj=>Pu.D.bl !(bg (sD s) j).isSome)=_;rw[fW,hlk];rfl
   have hi:aj (.dct false (sD s)) (.str x)=some v.D:=hlk;have hv:v.w:=by
    clear hlk hn hi hl ne hT hT';induction s with
    |nil=>cases e
    |cons p r ih=>
     obtain⟨y,u⟩:=p;unfold lk at e
     by_cases q:y=x
     ·rw[aJ q]at e;cases e;exact hs (y,v) aI
     ·rw[aK q]at e;exact ih (λp hp=>hs p (aE _ hp)) e
   have nv:=Lw hv hw;dsimp only;rw[xj]
   by_cases q:v=w
   ·rw[aJ q];rw[decide_eq_true q]at nv;simp[U2,hT',hW,hn,hi,nv]
   ·rw[aK q];rw[decide_eq_false q]at nv;simp[U2,hT',hW,hn,hi,nv]
def Ww{ts:List Tm}(h:k<ts.length):aj (.tup (ts.map Tm.D)) (.int (k:Int))=some (ts[k].D):=by
 show L2.atI (ts.map Tm.D) (k:Int)=_;refine L2.xu ?_;rw[bN,bP h];rfl
def CM{ts ws:List Tm}(v0:Sl)(hlen:ts.length=ws.length)(ht:∀t∈ts,t.w)(hw:∀t∈ws,t.w):∀(m k:Nat)(s:Sub)(v4:Sl),k+m=ts.length->s.w->s.length+m<=1000->
  (∃s' w4,pf s (ts.drop k) (ws.drop k)=some s'/\turns (ar 4) U2 (KZ k m) [v0,.bo (.tup (ts.map Tm.D)),.bo (.tup (ws.map Tm.D)),.od false (sD s),v4]=.nx [v0,.bo (.tup (ts.map Tm.D)),.bo (.tup (ws.map Tm.D)),.od false (sD s'),w4])\/
  (pf s (ts.drop k) (ws.drop k)=none/\turns (ar 4) U2 (KZ k m) [v0,.bo (.tup (ts.map Tm.D)),.bo (.tup (ws.map Tm.D)),.od false (sD s),v4]=.rt .non):=by
 intro m;induction m with
 |zero=>
  intro k s v4 e _ _;refine .inl ⟨s,v4,?_,rfl⟩;rw[jE (by lia),jE (by lia),xj]
 |succ m ih=>
  intro k s v4 e hs hl;have h1:k<ts.length:=by lia
  have h2:k<ws.length:=by lia
  have e4:(0+(k:Int))=(k:Int):=by lia
  rw[eB h1,eB h2,Ci,Wx,b8 (δ1:=[v0,.bo (.tup (ts.map Tm.D)),.bo (.tup (ws.map Tm.D)),.od false (sD s),.pu (.int (0+(k:Int)))]) rfl,e4,
   CL (Ww h1) (Ww h2) (ht _ (kK h1)) (hw _ (kK h2)) hs (by lia)]
  cases ep:pf s [ts[k]] [ws[k]]with
  |none=>exact .inr ⟨rfl,rfl⟩
  |some s'=>
   obtain⟨q1,q2⟩:=Os hs (hw _ (kK h2)) ep;exact ih (k+1) s' (.pu (.int (k:Int))) (by lia) q1 (by lia)
def CK(n:Nat){ts ws:List Tm}{s:Sub}(hlen:ts.length=ws.length)(ht:∀t∈ts,t.w)(hw:∀t∈ws,t.w)(hs:s.w)(hl:s.length+ts.length<=1000):
  af (tab (n+1)) my [.dct false (sD s),.tup (ts.map Tm.D),.tup (ws.map Tm.D)]=.ok (rD (pf s ts ws)):=by
 rw[Sw];have hr:c7 (ar 4) (ir (aa (g1 bu (ae 1)) ah)) U2 [.bo (.dct false (sD s)),.bo (.tup (ts.map Tm.D)),.bo (.tup (ws.map Tm.D)),.od false (sD s),.no]=turns (ar 4) U2 (KZ 0 ts.length) [.bo (.dct false (sD s)),.bo (.tup (ts.map Tm.D)),.bo (.tup (ws.map Tm.D)),.od false (sD s),.no]:=by
  rw[cu (rg _ _ (j':=(ts.length:Int)) (by simp) (by lia))]
  congr 1
  unfold KZ i8;rw[dY,List.range_eq_range']
 rcases CM (.bo (.dct false (sD s))) hlen ht hw ts.length 0 s .no (by lia) hs hl with ⟨s',w4,h1,h2⟩|⟨h1,h2⟩
 ·rw[kH,kH]at h1;rw[h2]at hr;unfold U2 at hr;simp -implicitDefEqProofs [zt,hr,h1,rD]
 ·rw[kH,kH]at h1;rw[h2]at hr;unfold U2 at hr;simp -implicitDefEqProofs [zt,hr,h1,rD]
def w8(s:Sub)(a f:At):Option Sub:=if f.nm=a.nm then pf s a.ts f.ts else none
def kj(F:List At)(found:List Sub)(a:At):List Sub:=found.flatMap λs=>F.filterMap (w8 s a)
def dS(s:Sub):Pu.D:=.dct false (sD s)
def HM(lf:List Pu.D->Res):En->Out:=(ao (bx 7 (gC .non))
 (ao (i9 (ie (g2 dj (g2 aj (ae 6) (gC (.int 0))) (g2 aj (ae 3) (gC (.int 0)))) (g2 dj (g1 bu (g2 aj (ae 6) (gC (.int 1)))) (g1 bu (g2 aj (ae 3) (gC (.int 1)))))) (bx 7 (ai lf (aa (ae 5) (aa (g2 aj (ae 3) (gC (.int 1))) (aa (g2 aj (ae 6) (gC (.int 1))) ah))))) cn)
 (i9 (g2 fo (ae 7) (gC .non)) (fz [7] (qu 4 (a6 7))) cn)))
def BU{a f:At}{acc:List Sub}(hlf:a.ts.length=f.ts.length->lf [dS s,.tup (a.ts.map Tm.D),.tup (f.ts.map Tm.D)]=.ok (rD (pf s a.ts f.ts)))(ha:bO a.nm=true)(hf:bO f.nm=true)(hl:acc.length<16777216):
  ∃w7,HM lf [v0,v1,v2,.pu a.D,.ow (acc.map dS),.pu (dS s),.pu f.D,v7]=.nx [v0,v1,v2,.pu a.D,.ow ((acc++(w8 s a f).toList).map dS),.pu (dS s),.pu f.D,w7]:=by
 have q:=V5 hf ha;unfold w8
 by_cases e:f.nm=a.nm
 ·rw[aJ e];rw[decide_eq_true e]at q
  by_cases l:a.ts.length=f.ts.length
  ·have h:=hlf l;have l':(f.ts.length:Int)=(a.ts.length:Int):=by lia
   cases ep:pf s a.ts f.ts with
   |none=>
    rw[ep]at h;refine⟨.pu .non,?_⟩;unfold dS at h⊢;simp[HM,l0,At.D,q,l',h,rD]
   |some s'=>
    rw[ep]at h;refine⟨.pu (dS s'),?_⟩;unfold dS at h⊢;simp[HM,l0,At.D,q,l',h,rD,hl]
  ·rw[Oq l];have l':((f.ts.length:Int)==(a.ts.length:Int))=false:=beq_eq_false_iff_ne.mpr (by lia);refine⟨.pu .non,?_⟩;simp[HM,l0,At.D,q,l']
 ·rw[aK e];rw[decide_eq_false e]at q;refine⟨.pu .non,?_⟩;simp[HM,l0,At.D,q]
theorem Qk{a:At}(ha:bO a.nm=true):∀(F:List At)(acc:List Sub)(v6 v7:Sl),(∀f∈F,(a.ts.length=f.ts.length->lf [dS s,.tup (a.ts.map Tm.D),.tup (f.ts.map Tm.D)]=.ok (rD (pf s a.ts f.ts)))/\bO f.nm=true)->acc.length+F.length<=1000000->
  ∃w6 w7,turns (ar 6) (HM lf) (F.map At.D) [v0,v1,v2,.pu a.D,.ow (acc.map dS),.pu (dS s),v6,v7]=.nx [v0,v1,v2,.pu a.D,.ow ((acc++F.filterMap (w8 s a)).map dS),.pu (dS s),w6,w7]
 |[],acc,v6,v7,_,_=>⟨v6,v7,by simp[turns]⟩
 |f::F,acc,v6,v7,h,hl=>by
  rw[aL]at hl;obtain⟨h1,h2⟩:=h f aI;obtain⟨w7,e⟩:=BU (v0:=v0) (v1:=v1) (v2:=v2) (v7:=v7) (acc:=acc) h1 ha h2 (by lia);have le:(acc++(w8 s a f).toList).length<=acc.length+1:=by cases w8 s a f<;>simp
  obtain⟨u6,u7,e2⟩:=Qk ha F (acc++(w8 s a f).toList) (.pu f.D) w7 (λg hg=>h g (aE _ hg)) (by lia);refine⟨u6,u7,?_⟩;rw[aG,b8 (δ1:=[v0,v1,v2,.pu a.D,.ow (acc.map dS),.pu (dS s),.pu f.D,v7]) rfl,e];dsimp only;rw[e2,dE];cases w8 s a f<;>simp
def OQ(lf:List Pu.D->Res):En->Out:=(fz [1] (c7 (ar 6) (a7 (yd 1)) (HM lf)))
theorem Ql{a:At}{F:List At}(ha:bO a.nm=true)(hF:∀f∈F,bO f.nm=true)(hn:F.length<=9):∀(S:List Sub)(acc:List Sub)(v5 v6 v7:Sl),(∀s∈S,∀f∈F,a.ts.length=f.ts.length->lf [dS s,.tup (a.ts.map Tm.D),.tup (f.ts.map Tm.D)]=.ok (rD (pf s a.ts f.ts)))->acc.length+9 * S.length<=900000->
  ∃w5 w6 w7,turns (ar 5) (OQ lf) (S.map dS) [v0,.bo (.lst (F.map At.D)),v2,.pu a.D,.ow (acc.map dS),v5,v6,v7]=.nx [v0,.bo (.lst (F.map At.D)),v2,.pu a.D,.ow ((acc++kj F S a).map dS),w5,w6,w7]
 |[],acc,v5,v6,v7,_,_=>⟨v5,v6,v7,by simp[turns,kj]⟩
 |s::S,acc,v5,v6,v7,h,hl=>by
  rw[aL]at hl;obtain⟨w6,w7,e⟩:=Qk (lf:=lf) (v0:=v0) (v1:=.bo (.lst (F.map At.D))) (v2:=v2) (s:=s) ha F acc v6 v7 (λf hf=>⟨h s aI f hf,hF f hf⟩) (by lia);have le:(acc++F.filterMap (w8 s a)).length<=acc.length+9:=by
   rw[aU];have:=iM (w8 s a) F
   lia
  obtain⟨u5,u6,u7,e2⟩:=Ql ha hF hn S (acc++F.filterMap (w8 s a)) (.pu (dS s)) w6 w7 (λt ht=>h t (aE _ ht)) (by lia);refine⟨u5,u6,u7,?_⟩;rw[aG,b8 (δ1:=[v0,.bo (.lst (F.map At.D)),v2,.pu a.D,.ow (acc.map dS),.pu (dS s),v6,v7]) rfl];have eb:OQ lf [v0,.bo (.lst (F.map At.D)),v2,.pu a.D,.ow (acc.map dS),.pu (dS s),v6,v7]=.nx [v0,.bo (.lst (F.map At.D)),v2,.pu a.D,.ow ((acc++F.filterMap (w8 s a)).map dS),.pu (dS s),w6,w7]:=by
   unfold OQ;rw[NA];show c7 _ _ _ [v0,.bo (.lst (F.map At.D)),v2,.pu a.D,.ow (acc.map dS),.pu (dS s),v6,v7]=_;rw[cu (ds:=F.map At.D) (by simp)];exact e
  rw[eb];dsimp only;rw[e2];simp[kj]
def sv(F:List At)(S:List Sub)(as:List At):List Sub:=as.foldl (kj F) S
def Ah{a:At}:s'∈kj F S a↔∃s∈S,∃f∈F,f.nm=a.nm/\pf s a.ts f.ts=some s':=by
 unfold kj;rw[List.mem_flatMap];constructor
 ·rintro ⟨s,hs,h⟩
  obtain⟨f,hf,e⟩:=List.mem_filterMap.mp h;unfold w8 at e;split at e
  ·rename_i q;exact⟨s,hs,f,hf,q,e⟩
  ·cases e
 ·rintro ⟨s,hs,f,hf,q,e⟩
  exact⟨s,hs,List.mem_filterMap.mpr ⟨f,hf,by unfold w8;rw[aJ q];exact e⟩⟩
def Gk{F:List At}{S:List Sub}(hn:F.length<=9):(kj F S a).length<=9 * S.length:=by
 unfold kj;induction S with
 |nil=>simp
 |cons s S ih=>
  rw[jU,aU,aL];have:=iM (w8 s a) F
  lia
def PM(lf:List Pu.D->Res):En->Out:=(ao (iz 4 (fm ah))
 (ao (fz [2] (c7 (ar 5) (a7 (yd 2)) (OQ lf)))
 (fz [4] (bx 2 (a6 4)))))
def YT(sl:Sl)(S:List Sub):Prop:=sl=.ow (S.map dS)\/sl=.pu (.lst (S.map dS))
theorem P3{F:List At}(hF:∀f∈F,bO f.nm=true/\∀t∈f.ts,t.w)(hn:F.length<=9)
  (hlf:∀(s:Sub)(ts ws:List Tm),s.w->s.length+ts.length<=1000->ts.length=ws.length->(∀t∈ts,t.w)->(∀t∈ws,t.w)->lf [dS s,.tup (ts.map Tm.D),.tup (ws.map Tm.D)]=.ok (rD (pf s ts ws))):
  ∀(as:List At)(S:List Sub)(m k:Nat)(sl v3 v4 v5 v6 v7:Sl),YT sl S->(∀a∈as,a.w/\a.ts.length<=4)->(∀s∈S,s.w/\s.length<=k)->k+4 * as.length<=900->S.length<=m->m * 9 ^ as.length<=90000->
  ∃sl' w3 w4 w5 w6 w7,YT sl' (sv F S as)/\turns (ar 3) (PM lf) (as.map At.D) [v0,.bo (.lst (F.map At.D)),sl,v3,v4,v5,v6,v7]=.nx [v0,.bo (.lst (F.map At.D)),sl',w3,w4,w5,w6,w7]
 |[],S,m,k,sl,v3,v4,v5,v6,v7,hs,_,_,_,_,_=>⟨sl,v3,v4,v5,v6,v7,hs,rfl⟩
 |a::as,S,m,k,sl,v3,v4,v5,v6,v7,hs,ha,hS,hk,hm,hl=>by
  rw[aL]at hk hl;have hp:m * 9 * 9 ^ as.length<=90000:=by rw[Nat.mul_assoc,<-Nat.pow_succ'];exact hl
  have hm9:m * 9<=90000:=cM (Nat.le_mul_of_pos_right _ (Nat.pow_pos (by decide))) hp;obtain⟨a1,a2⟩:=ha a aI;obtain⟨w5,w6,w7,e⟩:=Ql (lf:=lf) (v0:=v0) (v2:=.pu (.lst (S.map dS))) a1.1 (λf hf=>(hF f hf).1) hn S [] v5 v6 v7 (λs hs f hf l=>hlf s _ _ (hS s hs).1 (by have:=(hS s hs).2;lia) l a1.2 (hF f hf).2) (by simp;lia);rw[fJ]at e;have S':∀s'∈kj F S a,s'.w/\s'.length<=k+4:=λs' hs'=>by
   obtain⟨s,hs,f,hf,_,ep⟩:=Ah.mp hs';obtain⟨q1,q2⟩:=DF (hS s hs).1 (hF f hf).2 ep;have:=(hS s hs).2;exact⟨q1,by lia⟩
  have fl:=Gk (S:=S) (a:=a) hn;have eb:PM lf [v0,.bo (.lst (F.map At.D)),sl,.pu a.D,v4,v5,v6,v7]=.nx [v0,.bo (.lst (F.map At.D)),.pu (.lst ((kj F S a).map dS)),.pu a.D,.pu (.lst ((kj F S a).map dS)),w5,w6,w7]:=by
   unfold PM;have fin:c7 (ar 5) (a7 (yd 2)) (OQ lf) [v0,.bo (.lst (F.map At.D)),.pu (.lst (S.map dS)),.pu a.D,.ow [],v5,v6,v7]=.nx [v0,.bo (.lst (F.map At.D)),.pu (.lst (S.map dS)),.pu a.D,.ow ((kj F S a).map dS),w5,w6,w7]:=by
    rw[cu (ds:=S.map dS) (by simp)];exact e
   rcases hs with rfl|rfl
   ·simp[fin]
   ·simp[fin]
  obtain⟨sl',u3,u4,u5,u6,u7,h1,h2⟩:=P3 hF hn hlf as (kj F S a) (m * 9) (k+4) (.pu (.lst ((kj F S a).map dS))) (.pu a.D) (.pu (.lst ((kj F S a).map dS))) w5 w6 w7 (.inr rfl) (λb hb=>ha b (aE _ hb)) S' (by lia) (by lia) hp;refine⟨sl',u3,u4,u5,u6,u7,h1,?_⟩;rw[aG,b8 (δ1:=[v0,.bo (.lst (F.map At.D)),sl,.pu a.D,v4,v5,v6,v7]) rfl,eb];exact h2
def W8(n:Nat){F as:List At}(hF:∀f∈F,bO f.nm=true/\∀t∈f.ts,t.w)(hn:F.length<=9)(ha:∀a∈as,a.w/\a.ts.length<=4)(hl:as.length<=5):
  af (tab (n+2)) nh [.tup (as.map At.D),.lst (F.map At.D)]=.ok (.lst ((sv F [[]] as).map dS)):=by
 rw[Nu];have pw:1 * 9 ^ as.length<=90000:=by
  have:as.length=0\/as.length=1\/as.length=2\/as.length=3\/as.length=4\/as.length=5:=by lia
  rcases this with e|e|e|e|e|e<;>rw[e]<;>decide
 obtain⟨sl',w3,w4,w5,w6,w7,h1,h2⟩:=P3 (lf:=af (tab (n+1)) my) (v0:=.bo (.tup (as.map At.D))) hF hn (λs ts ws hs hl' e ht hw=>CK n e ht hw hs hl') as [[]] 1 0 (.ow [.dct false []]) .no .no .no .no .no (.inl rfl) ha (λs hs=>by rw[List.mem_singleton.mp hs];exact⟨(λp hp=>by cases hp),aR _⟩) (by lia) (by simp) pw;have hr:c7 (ar 3) (a7 (yd 0)) (PM (af (tab (n+1)) my)) [.bo (.tup (as.map At.D)),.bo (.lst (F.map At.D)),.ow [.dct false []],.no,.no,.no,.no,.no]=.nx [.bo (.tup (as.map At.D)),.bo (.lst (F.map At.D)),sl',w3,w4,w5,w6,w7]:=by
  rw[cu (ds:=as.map At.D) (by simp)];exact h2
 unfold PM OQ HM at hr;rcases h1 with rfl|rfl
 ·simp[wk,hr]
 ·simp[wk,hr]
theorem Lo(h:Le s s'):∀{ts ws:List Tm},ts.map (U0 s)=ws.map some->ts.map (U0 s')=ws.map some
 |[],[],_=>rfl
 |[],_::_,e=>by cases e
 |_::_,[],e=>by cases e
 |t::ts,w::ws,e=>by
  rw[aG,aG]at e;injection e with e1 e2
  rw[aG,aG,Dh h e1,Lo h e2]
theorem w9:∀(as:List At)(S:List Sub)(s':Sub),s'∈sv F S as->∃s∈S,Le s s'/\∀a∈as,∃f∈F,f.nm=a.nm/\a.ts.map (U0 s')=f.ts.map some
 |[],S,s',h=>⟨s',h,Le.refl s',λa ha=>by cases ha⟩
 |a::as,S,s',h=>by
  obtain⟨s1,h1,le,hall⟩:=w9 as (kj F S a) s' h;obtain⟨s,hs,f,hf,q,ep⟩:=Ah.mp h1;obtain⟨p1,p2⟩:=qq ep;refine⟨s,hs,p1.trans le,λb hb=>?_⟩;rcases List.mem_cons.mp hb with rfl|hb
  ·exact⟨f,hf,q,Lo le p2⟩
  ·exact hall b hb
theorem vw:∀(as:List At)(S:List Sub)(s:Sub),s∈S->PZ φ s->(∀a∈as,(At.mk a.1 (a.2.map (ap φ)))∈F)->∃s'∈sv F S as,PZ φ s'
 |[],S,s,h,hf,_=>⟨s,h,hf⟩
 |a::as,S,s,h,hf,hall=>by
  obtain⟨s1,e1,f1⟩:=j5 a.ts hf;exact vw as (kj F S a) s1 (Ah.mpr ⟨s,h,_,hall a aI,rfl,e1⟩) f1 λb hb=>hall b (aE _ hb)
end LK
end
section
namespace Pu
open PySem PySem.Spec PyProof.Rows
def tI(ns:List Int):D:=.tup (ns.map D.int)
end Pu
end
section
namespace LK
open PySem PySem.Spec PyProof.Rows Pu
def rK(r:List Int):L2.bf:=r.map λz=>.inl (.inl z)
def HI(r:List Int):kT (rK r)=tI r:=by
 show Pu.D.tup ((r.map λz=>kI (kI z)).map HD)=_;rw[bV];rfl
def Af(r:List Int):jg (tI r)=some (rK r):=by rw[<-HI];exact qo _
theorem Ox:∀{r t:List Int},rK r=rK t->r=t
 |[],[],_=>rfl
 |[],_::_,h=>by cases h
 |_::_,[],h=>by cases h
 |i::r,j::t,h=>by
  unfold rK at h;rw[aG,aG]at h;injection h with h1 h2
  rw[pE (pE h1),Ox h2]
def zp(U:List (List Int)):List (List Int)->List (List Int)
 |[]=>U
 |r::l=>zp (if r∈U then U else U++[r]) l
theorem Cu:∀(l U:List (List Int)),U.Nodup->(zp U l).Nodup
 |[],U,h=>h
 |r::l,U,h=>by
  unfold zp;refine Cu l _ ?_;split
  ·exact h
  ·rename_i hf;refine List.nodup_append.mpr ⟨h,by simp,λa ha b hb=>?_⟩;rw[List.mem_singleton.mp hb];exact λz=>hf (z▸ha)
theorem Lq:∀(l U:List (List Int))(x:List Int),x∈zp U l↔x∈U\/x∈l
 |[],U,x=>by simp[zp]
 |r::l,U,x=>by
  unfold zp;rw[Lq l]
  by_cases h:r∈U
  ·rw[aJ h,cR];constructor
   ·rintro (q|q)
    ·exact .inl q
    ·exact .inr (.inr q)
   ·rintro (q|q|q)
    ·exact .inl q
    ·exact .inl (q▸h)
    ·exact .inr q
  ·rw[aK h,mQ,List.mem_singleton,cR,or_assoc]
theorem Hj:∀(l U:List (List Int)),(l.map rK).foldl L2.rm (U.map rK)=(zp U l).map rK
 |[],U=>rfl
 |r::l,U=>by
  rw[aG,pC];unfold zp;rw[<-Hj l]
  congr 1
  unfold L2.rm;have e:L2.Ac (U.map rK) (rK r)=decide (r∈U):=by
   by_cases h:r∈U
   ·rw[decide_eq_true h];exact L2.qj.mpr (List.mem_map.mpr ⟨r,h,rfl⟩)
   ·rw[decide_eq_false h];cases q:L2.Ac (U.map rK) (rK r)with
    |false=>rfl
    |true=>
     obtain⟨g,hg,e⟩:=List.mem_map.mp (L2.qj.mp q);exact absurd (Ox e▸hg) h
  rw[e]
  by_cases h:r∈U
  ·rw[aJ (decide_eq_true h),aJ h]
  ·rw[aK (by simp[h]),aK h,dH];rfl
theorem Bc:∀F:List (List Int),k6 (F.map tI)=some (F.map rK)
 |[]=>rfl
 |f::F=>by rw[aG,k6,Af,Bc F];rfl
theorem D8[DecidableEq α]:∀(l U:List α),l.Nodup->(∀x∈l,x∈U)->l.length<=U.length
 |[],_,_,_=>cT _
 |a::l,U,nd,h=>by
  obtain⟨n1,n2⟩:=List.nodup_cons.mp nd;have ha:=h a aI;have:=D8 l (U.erase a) n2 λx hx=>(List.mem_erase_of_ne (λ(z:x=a)=>n1 (z▸hx))).mpr (h x (aE _ hx));rw[List.length_erase_of_mem ha]at this;have hp:0<U.length:=List.length_pos_of_mem ha;rw[aL]
  lia
def V4:List Int:=[-1,0,1,2]
def U4:Nat->List (List Int)
 |0=>[[]]
 |m+1=>(U4 m).flatMap λr=>V4.map λz=>z::r
theorem Xb:∀(r:List Int),(∀z∈r,z∈V4)->r∈U4 r.length
 |[],_=>List.mem_singleton.mpr rfl
 |z::r,h=>by
  show z::r∈(U4 r.length).flatMap λr=>V4.map λz=>z::r;exact List.mem_flatMap.mpr ⟨r,Xb r λy hy=>h y (aE _ hy),List.mem_map.mpr ⟨z,h z aI,rfl⟩⟩
theorem Dt:∀{R:List (List Int)},(∀r∈R,r≠[])->j9 (R.map tI)=some R
 |[],_=>rfl
 |r::R,h=>by
  have iL:∀l:List Int,qm (l.map Pu.D.int)=some l:=λl=>by
   induction l with
   |nil=>rfl
   |cons i r ih=>rw[aG,qm,ih];rfl
  have e:K7 (tI r)=some r:=by
   unfold tI K7;dsimp only;rw[iL];cases r with
   |nil=>exact absurd rfl (h [] aI)
   |cons i r=>rfl
  rw[aG,j9,e,Dt λg hg=>h g (aE _ hg)]
theorem HA:∀(l:List Pu.D)(R:List (List Int)),(∀d∈l,d∈R.map tI)->∃G:List (List Int),l=G.map tI
 |[],R,_=>⟨[],rfl⟩
 |d::l,R,h=>by
  obtain⟨f,hf,rfl⟩:=List.mem_map.mp (h d aI);obtain⟨G,rfl⟩:=HA l R λd hd=>h d (aE _ hd);exact⟨f::G,rfl⟩
def Zi(h:tI r=tI t):r=t:=Ox (by
 have h1:=Af r;rw[h,Af]at h1;exact(bM h1).symm)
def Jw{rows:List (List Int)}(hm:m<=2)(h:∀r∈rows,r.length=m/\∀z∈r,z∈V4):∃R:List (List Int),j0 (.lst (rows.map tI))=some (.lst (R.map tI))/\(∀r,r∈R↔r∈rows)/\R.length<=1000:=by
 cases rows with
 |nil=>exact⟨[],rfl,(λr=>Iff.rfl),cT _⟩
 |cons f l=>
  rw[show j0 (.lst ((f::l).map tI))=og (.lst ((f::l).map tI))from rfl];show∃R:List (List Int),((k6 ((f::l).map tI)).bind λkz=>if(L2.l7 kz).length<=76 then(gx ((L2.l7 kz).map kT)).map Pu.D.lst else none)=_/\_;rw[Bc];show∃R:List (List Int),(if(L2.l7 ((f::l).map rK)).length<=76 then(gx ((L2.l7 ((f::l).map rK)).map kT)).map Pu.D.lst else none)=_/\_;have es:L2.l7 ((f::l).map rK)=(zp [] (f::l)).map rK:=Hj (f::l) [];have em:((zp [] (f::l)).map rK).map kT=(zp [] (f::l)).map tI:=by
   rw[bV];exact eQ λg _=>HI g
  have nd:=Cu (f::l) [] fI;have mm:∀x,x∈zp [] (f::l)↔x∈f::l:=λx=>by rw[Lq];simp
  generalize zp [] (f::l)=R at *;have le:=D8 R (U4 m) nd λx hx=>by
   obtain⟨q1,q2⟩:=h x ((mm x).mp hx);rw[<-q1];exact Xb x q2
  have lm:(U4 m).length<=16/\(m=0->(U4 m).length=1):=by
   have:m=0\/m=1\/m=2:=by lia
   rcases this with rfl|rfl|rfl<;>decide
  rw[es,aJ (by rw[aF];lia),em];unfold gx
  by_cases h2:(R.map tI).length<2
  ·rw[aJ h2];exact⟨R,rfl,mm,by rw[aF]at h2;lia⟩
  ·rw[aK h2,aJ (by rw[aF];lia)];have ne:∀r∈R,r≠[]:=λr hr z=>by
    have:=(h r ((mm r).mp hr)).1;rw[z]at this;have:=lm.2 this.symm;rw[aF]at h2
    lia
   have e:i5 (R.map tI)=some (0,R):=by unfold i5;rw[Dt ne]
   rw[e];dsimp only;rw[aJ nd];have pm:=(j3 (R.zip (R.map tI))).map (·.2);rw[oJ (by simp)]at pm;obtain⟨G,e1⟩:=HA _ R λd hd=>pm.mem_iff.mp hd;have gl:G.length=R.length:=by
    have:=pm.length_eq;rw[e1]at this;simpa using this
   refine⟨G,by rw[e1];rfl,λr=>?_,by lia⟩;rw[<-mm r];constructor
   ·intro hr;have:tI r∈R.map tI:=pm.mem_iff.mp (by rw[e1];exact List.mem_map.mpr ⟨r,hr,rfl⟩);obtain⟨t,ht,q⟩:=List.mem_map.mp this;rw[<-Zi q];exact ht
   ·intro hr;have:tI r∈G.map tI:=by rw[<-e1];exact pm.mem_iff.mpr (List.mem_map.mpr ⟨r,hr,rfl⟩)
    obtain⟨t,ht,q⟩:=List.mem_map.mp this;rw[<-Zi q];exact ht
def ON:En->Out:=(i9 (cv (g1 (ba "str") (ae 3))) (qu 2 (g2 aj (ae 0) (ae 3))) (fz [3] (qu 2 (a6 3))))
theorem Q4(v1:Sl):∀(ts:List Tm)(acc:List Int)(v3:Sl),(∀x,Tm.s x∈ts->∃z,lk s x=some (.i z))->acc.length+ts.length<=1000->
  ∃w3,turns (ar 3) ON (ts.map Tm.D) [.bo (dS s),v1,.ow (acc.map Pu.D.int),v3]=.nx [.bo (dS s),v1,.ow ((acc++ts.map (md s)).map Pu.D.int),w3]
 |[],acc,v3,_,_=>⟨v3,by simp[turns]⟩
 |t::ts,acc,v3,h,hl=>by
  rw[aL]at hl;obtain⟨w3,e⟩:=Q4 v1 ts (acc++[md s t]) (.pu t.D) (λx hx=>h x (aE _ hx)) (by rw[aU];simp;lia);refine⟨w3,?_⟩;have hlt:acc.length<16777216:=by lia
  have eb:ON [.bo (dS s),v1,.ow (acc.map Pu.D.int),.pu t.D]=.nx [.bo (dS s),v1,.ow ((acc++[md s t]).map Pu.D.int),.pu t.D]:=by
   cases t with
   |i z=>simp[ON,Tm.D,md,hlt]
   |s x=>
    obtain⟨z,ez⟩:=h x aI;have hn:=o7 x s;rw[ez]at hn;have hi:aj (dS s) (.str x)=some (.int z):=hn;simp[ON,Tm.D,md,hi,ez,hlt]
  rw[aG,b8 (δ1:=[.bo (dS s),v1,.ow (acc.map Pu.D.int),.pu t.D]) rfl,eb];dsimp only;rw[e];simp
def CH(n:Nat){ts:List Tm}(hl:ts.length<=900)(h:∀x,Tm.s x∈ts->∃z,lk s x=some (.i z)):af (tab (n+1)) qa [dS s,.tup (ts.map Tm.D)]=.ok (tI (ts.map (md s))):=by
 rw[Sx];obtain⟨w3,e⟩:=Q4 (s:=s) (.bo (.tup (ts.map Tm.D))) ts [] .no h (by simp;lia);have hr:c7 (ar 3) (a7 (yd 1)) ON [.bo (dS s),.bo (.tup (ts.map Tm.D)),.ow [],.no]=.nx [.bo (dS s),.bo (.tup (ts.map Tm.D)),.ow ((ts.map (md s)).map Pu.D.int),w3]:=by
  rw[cu (ds:=ts.map Tm.D) (by simp)];simpa using e
 unfold ON at hr;simp[F6,hr,tI,-bV]
structure Bk(F:List At):Prop where
 n:F.length<=9
 w:∀f∈F,bO f.nm=true/\∀t∈f.ts,∃z,t=.i z/\z∈V4
def Bk.tw(B:Bk F):∀f∈F,bO f.nm=true/\∀t∈f.ts,t.w:=λf hf=>⟨(B.w f hf).1,λt ht=>by
 obtain⟨z,rfl,_⟩:=(B.w f hf).2 t ht;trivial⟩
structure QA(a:zh):Prop extends GA a where
 ask:Cp a
 h2:a.1.length<=2
 l5:a.2.length<=5
 hz:∀z,Tm.i z∈a.1->z∈V4
theorem V6:∀{ts ws:List Tm},Tm.s x∈ts->ts.map (U0 s)=ws.map some->∃w∈ws,lk s x=some w
 |[],_,h,_=>by cases h
 |_::_,[],_,e=>by cases e
 |t::ts,w::ws,h,e=>by
  rw[aG,aG]at e;injection e with e1 e2
  rcases List.mem_cons.mp h with h|h
  ·subst h;exact⟨w,aI,e1⟩
  ·obtain⟨u,hu,q⟩:=V6 h e2;exact⟨u,aE _ hu,q⟩
def UZ(a:zh)(F:List At)(r:List Int):Prop:=∃s∈sv F [[]] a.2,r=a.1.map (md s)
def QA.bound(A:QA a)(B:Bk F)(hs:s∈sv F [[]] a.2):∀x,Tm.s x∈a.1->∃z,lk s x=some (.i z)/\z∈V4:=λx hx=>by
 obtain⟨_,_,_,hall⟩:=w9 a.2 [[]] s hs;obtain⟨b,hb,hbx⟩:=A.ask.2 x hx;obtain⟨f,hf,_,e⟩:=hall b hb;obtain⟨w,hw,q⟩:=V6 hbx e;obtain⟨z,rfl,hz⟩:=(B.w f hf).2 w hw;exact⟨z,q,hz⟩
def Na(n:Nat){F:List At}(A:QA a)(B:Bk F):∃R:List (List Int),af (tab (n+3)) gm [aD a,.lst (F.map At.D)]=.ok (.lst (R.map tI))/\(∀r,r∈R↔UZ a F r)/\R.length<=1000:=by
 have e1:=W8 n B.tw B.n (λx hx=>(A.toGA.toAskd.a4 x hx)) A.l5;have hc:b9 (a7 (ai (af (tab (n+2)) nh) (aa (g2 aj (ae 0) (gC (.int 1))) (aa (ae 1) ah)))) [0] (gC (.bl true)) (ai (af (tab (n+2)) qa) (aa (ae 0) (aa (g2 aj (ae 1) (gC (.int 0))) ah))) [.bo (aD a),.bo (.lst (F.map At.D))]=.ok (.lst ((sv F [[]] a.2).map λs=>tI (a.1.map (md s)))):=by
  refine m9 (f:=dS) (by simp[aD,c8,e1]) ?_ λs hs=>?_
  ·have fl:∀(as:List At)(S:List Sub)(m:Nat),S.length<=m->(sv F S as).length<=m * 9 ^ as.length:=λas=>by
    induction as with
    |nil=>intro S m h;simpa[sv]using h
    |cons b as ih=>
     intro S m h;have q:=ih (kj F S b) (m * 9) (by have:=Gk (S:=S) (a:=b) B.n;lia);rw[aL,Nat.pow_succ',<-Nat.mul_assoc];exact q
   have q:=fl a.2 [[]] 1 (by simp);have l5:=A.l5;have pw:1 * 9 ^ a.2.length<=90000:=by
    have:a.2.length=0\/a.2.length=1\/a.2.length=2\/a.2.length=3\/a.2.length=4\/a.2.length=5:=by lia
    rcases this with e|e|e|e|e|e<;>rw[e]<;>decide
   lia
  ·have e:=CH (n+1) (s:=s) (ts:=a.1) (by have:=A.h2;lia) λx hx=>by
    obtain⟨z,q,_⟩:=A.bound B hs x hx;exact⟨z,q⟩
   simp[cc,aD,c8,e]
 have hm:((sv F [[]] a.2).map λs=>tI (a.1.map (md s)))=((sv F [[]] a.2).map λs=>a.1.map (md s)).map tI:=by rw[bV];rfl
 rw[hm]at hc;obtain⟨R,r1,r2,r3⟩:=Jw (rows:=(sv F [[]] a.2).map λs=>a.1.map (md s)) A.h2 λr hr=>by
  obtain⟨s,hs,rfl⟩:=List.mem_map.mp hr;refine⟨by rw[aF],λz hz=>?_⟩;obtain⟨t,ht,rfl⟩:=List.mem_map.mp hz;cases t with
  |i z=>exact A.hz z ht
  |s x=>
   obtain⟨z,q,hz'⟩:=A.bound B hs x ht;show(match lk s x with|some (.i z)=>z|_=>0)∈V4;rw[q];exact hz'
 refine⟨R,?_,λr=>?_,r3⟩
 ·rw[Fo];simp[vq,hc,r1,-bV]
 ·rw[r2 r,oS];constructor
  ·rintro ⟨s,hs,e⟩;exact⟨s,hs,e.symm⟩
  ·rintro ⟨s,hs,e⟩;exact⟨s,hs,e.symm⟩
def P1{one other:zh}{F:List At}{ψ:Str->Tm}(A:QA one)(B:QA other)(Bk:Bk F)(h:UX ψ other one){r:List Int}(hr:UZ one F r):UZ other F r:=by
 obtain⟨s,hs,rfl⟩:=hr;obtain⟨_,_,_,hall⟩:=w9 one.2 [[]] s hs;have inF:∀a∈one.2,At.mk a.1 (a.2.map (ap (DE s)))∈F:=λa ha=>by
  obtain⟨f,hf,q,e⟩:=hall a ha;rw[Cd e,<-q];exact hf
 have apc:∀t,ap (λx=>ap (DE s) (ψ x)) t=ap (DE s) (ap ψ t):=λt=>by cases t<;>rfl
 obtain⟨s',hs',ft⟩:=vw (φ:=λx=>ap (DE s) (ψ x)) other.2 [[]] [] (List.mem_singleton.mpr rfl) (λx v e=>by cases e) λb hb=>by
  have:=inF _ (h.2 b hb);rw[bV]at this;rw[show b.2.map (ap λx=>ap (DE s) (ψ x))=b.2.map (ap (DE s) ∘ ap ψ)from eQ λt _=>apc t];exact this
 refine⟨s',hs',?_⟩;rw[<-h.1,bV];refine eQ λt ht=>?_;cases t with
 |i z=>rfl
 |s x=>
  obtain⟨z,q,_⟩:=B.bound Bk hs' x ht;have e:ap (DE s) (ψ x)=.i z:=ft x _ q;have e2:md s' (.s x)=z:=by
   show(match lk s' x with|some (.i z)=>z|_=>0)=z;rw[q]
  rw[e2];show md s (ψ x)=z;cases ep:ψ x with
  |i y=>rw[ep]at e;cases e;rfl
  |s y=>
   rw[ep]at e;have e3:(lk s y).getD (.s y)=.i z:=e;cases el:lk s y with
   |none=>rw[el]at e3;cases e3
   |some v=>
    rw[el]at e3;have e4:v=.i z:=e3;show(match lk s y with|some (.i z)=>z|_=>0)=z;rw[el,e4]
theorem J8:∀(l F:List Fc),∀f∈t6 F l,f∈F\/f∈l
 |[],F,f,h=>.inl h
 |g::l,F,f,h=>by
  unfold t6 at h;rcases J8 l _ f h with h|h
  ·split at h
   ·exact .inl h
   ·rcases List.mem_append.mp h with h|h
    ·exact .inl h
    ·rw[List.mem_singleton.mp h];exact .inr aI
  ·exact .inr (aE _ h)
theorem Et:∀(l F:List Fc),(l.map fK).foldl L2.rm (F.map fK)=(t6 F l).map fK
 |[],F=>rfl
 |f::l,F=>by
  rw[aG,pC];unfold t6;rw[<-Et l]
  congr 1
  unfold L2.rm;have e:L2.Ac (F.map fK) (fK f)=decide (f∈F):=by
   by_cases h:f∈F
   ·rw[decide_eq_true h];exact L2.qj.mpr (List.mem_map.mpr ⟨f,h,rfl⟩)
   ·rw[decide_eq_false h];cases q:L2.Ac (F.map fK) (fK f)with
    |false=>rfl
    |true=>
     obtain⟨g,hg,e⟩:=List.mem_map.mp (L2.qj.mp q);exact absurd (V7 e▸hg) h
  rw[e]
  by_cases h:f∈F
  ·rw[aJ (decide_eq_true h),aJ h]
  ·rw[aK (by simp[h]),aK h,dH];rfl
theorem yj:∀F:List Fc,k6 (F.map fD)=some (F.map fK)
 |[]=>rfl
 |f::F=>by rw[aG,k6,Ae,yj F];rfl
theorem HC:∀(l:List Pu.D)(F:List Fc),(∀d∈l,d∈F.map fD)->∃G:List Fc,l=G.map fD/\∀f∈G,f∈F
 |[],F,_=>⟨[],rfl,by intro f h;cases h⟩
 |d::l,F,h=>by
  obtain⟨f,hf,rfl⟩:=List.mem_map.mp (h d aI);obtain⟨G,rfl,hG⟩:=HC l F λd hd=>h d (aE _ hd);refine⟨f::G,rfl,λg hg=>?_⟩;rcases List.mem_cons.mp hg with rfl|hg
  ·exact hf
  ·exact hG g hg
def Mn{F:List Fc}(nd:F.Nodup)(hw:∀f∈F,bO f.1=true)(hl:F.length<64):∃G:List Fc,gx (F.map fD)=some (G.map fD)/\(∀f∈G,f∈F)/\G.length=F.length:=by
 unfold gx
 by_cases h2:(F.map fD).length<2
 ·rw[aJ h2];exact⟨F,rfl,λf h=>h,rfl⟩
 ·rw[aK h2,aJ (by rw[aF];exact hl)];have ka:j9 (F.map fD)=none:=by
   cases F with
   |nil=>simp at h2
   |cons f r=>rw[aG];rfl
  have e:i5 (F.map fD)=some (2,F.map λf=>wy f.1 f.2):=by
   unfold i5;rw[ka,Du hw];rfl
  rw[e];dsimp only;have q:(F.map λf=>wy f.1 f.2).Nodup:=by
   rw[List.Nodup,jP];refine lR (λ{a b} hab he=>?_) nd;obtain⟨z1,z2⟩:=Kx he;exact hab (Prod.ext z1 z2)
  rw[aJ q];have pm:=(j3 ((F.map λf=>wy f.1 f.2).zip (F.map fD))).map (·.2);rw[oJ (by simp)]at pm;obtain⟨G,e1,e2⟩:=HC _ F λd hd=>pm.mem_iff.mp hd;refine⟨G,by rw[e1],e2,?_⟩;have:=pm.length_eq;rw[e1]at this;simpa using this
def Fx{F:List Fc}(hw:∀f∈F,bO f.1=true)(hl:F.length<64):∃G:List Fc,j0 (.lst (F.map fD))=some (.lst (G.map fD))/\(∀f∈G,f∈F)/\G.length<=F.length:=by
 cases F with
 |nil=>exact⟨[],rfl,(λf h=>h),aR _⟩
 |cons f r=>
  rw[show j0 (.lst ((f::r).map fD))=og (.lst ((f::r).map fD))from rfl];show∃G:List Fc,((k6 ((f::r).map fD)).bind λkz=>if(L2.l7 kz).length<=76 then(gx ((L2.l7 kz).map kT)).map Pu.D.lst else none)=_/\_;rw[yj];show∃G:List Fc,(if(L2.l7 ((f::r).map fK)).length<=76 then(gx ((L2.l7 ((f::r).map fK)).map kT)).map Pu.D.lst else none)=_/\_;have es:L2.l7 ((f::r).map fK)=(t6 [] (f::r)).map fK:=Et (f::r) [];have el:=Cs (f::r) [];rw[eZ,lQ]at el;have em:((t6 [] (f::r)).map fK).map kT=(t6 [] (f::r)).map fD:=by
   rw[bV];exact eQ λg _=>Wy g
  rw[es,aJ (by rw[aF];lia),em];obtain⟨G,g1,g2,g3⟩:=Mn (wj (f::r) [] fI) (Ct (f::r) [] (by intro f h;cases h) hw) (by lia);refine⟨G,by rw[g1];rfl,λg hg=>?_,by lia⟩;rcases J8 (f::r) [] g (g2 g hg)with h|h
  ·cases h
  ·exact h
def U1(r:Int):Int:=if r=0 then 1 else if r=1 then 2 else 0
def dF(ns:List Int)(a u k:Int):Fc:=(H9 (jl ns (a+1+4 * k) 3),(bT ((U1 (jl ns (a+1+4 * k) 3)+u) % 3+1).toNat).map λ(j:Nat)=>jl ns (a+2+4 * k+(j:Int)) 4 - 1)
def AE(n:Nat):En->Res:=(b9 (ir (aa (ae 7) ah)) [1,5,0] (gC (.bl true)) (g2 Ej (ai (af (tab n) az) (aa (ae 3) (aa (g2 a9 (g2 a9 (g2 a9 (ae 1) (gC (.int 2))) (g2 jm (gC (.int 4)) (ae 2))) (ae 0)) (aa (gC (.int 4)) ah)))) (gC (.int 1))))
def JU(n:Nat):En->Out:=(ao (bx 6 (g2 aj (fm (aa (gC (.str "r")) (aa (gC (.str "s")) (aa (gC (.str "t")) ah)))) (ai (af (tab n) az) (aa (ae 0) (aa (g2 a9 (g2 a9 (ae 1) (gC (.int 1))) (g2 jm (gC (.int 4)) (ae 5))) (aa (gC (.int 3)) ah))))))
 (ao (fz [6] (bx 7 (g2 a9 (g2 wd (g2 a9 (gM jd (fm (aa (gC (.str "t")) (aa (gC (.str "r")) (aa (gC (.str "s")) ah)))) (ae 6)) (ae 4)) (gC (.int 3))) (gC (.int 1)))))
 (fz [6] (qu 3 (iu (aa (a6 6) (aa (g1 d4 (AE n)) ah)))))))
def JT(n:Nat)(ns:List Int)(a u k:Int)(ha:0<=a)(hk:0<=k){F:List Fc}(hF:F.length<=1000)(v2 v6 v7:Sl):
  ∃w6 w7,JU (n+2) [.bo (kf ns),.bo (.int a),v2,.ow (F.map fD),.pu (.int u),.pu (.int k),v6,v7]=.nx [.bo (kf ns),.bo (.int a),v2,.ow ((F++[dF ns a u k]).map fD),.pu (.int u),.pu (.int k),w6,w7]:=by
 have e0:=ig n ns (a+1+4 * k) 3 (by lia) (by decide);obtain⟨h0,h1⟩:=d8 ns (a+1+4 * k) 3 (by decide);unfold dF;generalize jl ns (a+1+4 * k) 3=r at e0 h0 h1⊢;have em:=λz=>Fg 4 z (.inl (by decide));have m3:=λz=>Mw z 3 (by decide);have key:∀(z:Int)(nm:Pu.D),0<=z->z<=3->AE (n+2) [.bo (kf ns),.bo (.int a),v2,.ow (F.map fD),.pu (.int u),.pu (.int k),.pu nm,.pu (.int z)]=.ok (.lst (((bT z.toNat).map λ(j:Nat)=>jl ns (a+2+4 * k+(j:Int)) 4 - 1).map Pu.D.int)):=λz nm hz hm=>by
  unfold AE;rw[bV];refine wt (rg _ _ (j':=z) (by simp) (by lia)) (by lia) λj hj=>?_;have e:=ig n ns (a+2+4 * k+(j:Int)) 4 (by lia) (by decide);simp[cc,em,e]
 have hlt:F.length<16777216:=by lia
 have x1:jd (.lst [.str "t",.str "r",.str "s"]) (.str "r")=some (.int 1):=by kernel_rfl
 have x2:jd (.lst [.str "t",.str "r",.str "s"]) (.str "s")=some (.int 2):=by kernel_rfl
 have x3:jd (.lst [.str "t",.str "r",.str "s"]) (.str "t")=some (.int 0):=by kernel_rfl
 have y1:aj (.lst [.str "r",.str "s",.str "t"]) (.int 0)=some (.str "r"):=rfl;have y2:aj (.lst [.str "r",.str "s",.str "t"]) (.int 1)=some (.str "s"):=rfl;have y3:aj (.lst [.str "r",.str "s",.str "t"]) (.int 2)=some (.str "t"):=rfl;have:r=0\/r=1\/r=2:=by lia
 rcases this with rfl|rfl|rfl
 ·refine⟨.pu (.str "r"),.pu (.int ((1+u) % 3+1)),?_⟩;have k2:=key ((1+u) % 3+1) (.str "r") (by lia) (by lia);simp[JU,em,e0,x1,y1,m3,k2,hlt,H9,U1,fD,-bV]
 ·refine⟨.pu (.str "s"),.pu (.int ((2+u) % 3+1)),?_⟩;have k2:=key ((2+u) % 3+1) (.str "s") (by lia) (by lia);simp[JU,em,e0,x2,y2,m3,k2,hlt,H9,U1,fD,-bV]
 ·refine⟨.pu (.str "t"),.pu (.int ((0+u) % 3+1)),?_⟩;have k2:=key ((0+u) % 3+1) (.str "t") (by lia) (by lia);rw[Int.zero_add]at k2⊢;simp[JU,em,e0,x3,y3,m3,k2,hlt,H9,U1,fD,-bV]
theorem Kh(n:Nat)(ns:List Int)(a u:Int)(ha:0<=a)(v2:Sl):∀(l:List Int)(F:List Fc)(v5 v6 v7:Sl),(∀k∈l,0<=k)->F.length+l.length<=1000->
  ∃w5 w6 w7,turns (ar 5) (JU (n+2)) (l.map Pu.D.int) [.bo (kf ns),.bo (.int a),v2,.ow (F.map fD),.pu (.int u),v5,v6,v7]=.nx [.bo (kf ns),.bo (.int a),v2,.ow ((F++l.map (dF ns a u)).map fD),.pu (.int u),w5,w6,w7]
 |[],F,v5,v6,v7,_,_=>⟨v5,v6,v7,by simp[turns]⟩
 |k::l,F,v5,v6,v7,h,hl=>by
  rw[aL]at hl;obtain⟨w6,w7,e⟩:=JT n ns a u k ha (h k aI) (F:=F) (by lia) v2 v6 v7;obtain⟨u5,u6,u7,e2⟩:=Kh n ns a u ha v2 l (F++[dF ns a u k]) (.pu (.int k)) w6 w7 (λj hj=>h j (aE _ hj)) (by rw[aU];simp;lia);refine⟨u5,u6,u7,?_⟩;rw[aG,b8 (δ1:=[.bo (kf ns),.bo (.int a),v2,.ow (F.map fD),.pu (.int u),.pu (.int k),v6,v7]) rfl,e];dsimp only;rw[e2];simp
def fA(f:Fc):At:=⟨f.1,f.2.map Tm.i⟩
def WI(f:Fc):(fA f).D=fD f:=by
 unfold At.D fA fD;dsimp only;rw[bV];rfl
def QW(ns:List Int)(a u k:Int):bO (dF ns a u k).1=true/\∀z∈(dF ns a u k).2,z∈V4:=by
 constructor
 ·unfold dF H9;dsimp only;split
  ·decide+kernel
  ·split<;>decide+kernel
 ·intro z hz;unfold dF at hz;obtain⟨j,_,rfl⟩:=List.mem_map.mp hz;obtain⟨r0,r1⟩:=d8 ns (a+2+4 * k+(j:Int)) 4 (by decide);generalize jl ns (a+2+4 * k+(j:Int)) 4=r at r0 r1;have:r=0\/r=1\/r=2\/r=3:=by lia
  rcases this with rfl|rfl|rfl|rfl<;>decide
def AI(n:Nat)(ns:List Int):∃F:List At,Bk F/\af (tab (n+3)) nc [kf ns,.int 100,.int 9]=.ok (.lst (F.map At.D)):=by
 rw[Nt];have e0:=ig n ns 100 10 (by decide) (by decide);obtain⟨r0,r1⟩:=d8 ns 100 10 (by decide);have e5:=ig n ns 150 6 (by decide) (by decide);generalize jl ns 100 10=r at e0 r0 r1;generalize jl ns 150 6=q at e5;have mx:Jm (.int 0) (.int (q - 3))=some (.int (if q - 3>0 then q - 3 else 0)):=rfl;generalize (if q - 3>0 then q - 3 else 0)=u at mx;obtain⟨w5,w6,w7,e1⟩:=Kh n ns 100 u (by decide) (.bo (.int 9)) (k7 r.toNat) [] .no .no .no (λk hk=>(Hi hk).1) (by simp[k7];lia);have gd:∀f∈(k7 r.toNat).map (dF ns 100 u),bO f.1=true/\∀z∈f.2,z∈V4:=λf hf=>by
  obtain⟨k,_,rfl⟩:=List.mem_map.mp hf;exact QW ns 100 u k
 have ln:((k7 r.toNat).map (dF ns 100 u)).length<=9:=by simp[k7];lia
 rw[fJ]at e1;generalize (k7 r.toNat).map (dF ns 100 u)=F at e1 gd ln;obtain⟨G,q1,q2,q3⟩:=Fx (F:=F) (λf hf=>(gd f hf).1) (by lia);refine⟨G.map fA,⟨by rw[aF];lia,λf hf=>?_⟩,?_⟩
 ·obtain⟨g,hg,rfl⟩:=List.mem_map.mp hf;obtain⟨d1,d2⟩:=gd g (q2 g hg);refine⟨d1,λt ht=>?_⟩;obtain⟨z,hz,rfl⟩:=List.mem_map.mp ht;exact⟨z,rfl,d2 z hz⟩
 ·have hr:c7 (ar 5) (ir (aa (ai (af (tab (n+2)) az) (aa (ae 0) (aa (ae 1) (aa (g2 a9 (ae 2) (gC (.int 1))) ah)))) ah)) (JU (n+2)) [.bo (kf ns),.bo (.int 100),.bo (.int 9),.ow [],.pu (.int u),.no,.no,.no]=.nx [.bo (kf ns),.bo (.int 100),.bo (.int 9),.ow (F.map fD),.pu (.int u),w5,w6,w7]:=by
   rw[cu (rg _ _ (j':=r) (by simp[e0]) (by lia)),Mf];exact e1
  have hm:(G.map fA).map At.D=G.map fD:=by rw[bV];exact eQ λf _=>WI f
  rw[hm];unfold JU AE at hr;simp[Cz,e5,mx,hr,q1]
theorem Lj(z:Int):∀l:Sub,bg (sD l) (.inl z)=none
 |[]=>rfl
 |(y,u)::r=>by
  show(if bz (.str y)=some (.inl z)then some u.D else bg (sD r) (.inl z))=none;rw[aK (by simp[bz])];exact Lj z r
def we(s:Sub):Tm->Tm
 |.i z=>.i z
 |.s x=>(lk s x).getD (.s x)
def C9(D:Drawn hd as):GA (hd,as)/\Cp (hd,as):=by
 have tg:∀{t:Tm},t.ok->t.good:=λ{t} h=>by
  cases t with
  |s x=>
   have:∀y∈zg,Al y=true:=by decide+kernel
   exact this x h
  |i z=>trivial
 have ag:∀a∈as,a.good:=λa ha=>by
  obtain⟨h1,h2⟩:=D.ok a ha;have l:=Vb (D.ok a ha);have hn:Al a.nm=true:=by
   rcases h1 with ⟨e,_⟩|⟨e,_⟩|⟨e,_⟩<;>rw[e]<;>decide+kernel
  exact⟨hn,l.1,by lia,λt ht=>tg (h2 t ht)⟩
 have hx:∀{x:Str},x∈bc as->(Tm.s x).good:=λ{x} h=>by
  obtain⟨a,ha,m⟩:=j4.mp h;exact(ag a ha).2.2.2 _ m
 refine⟨⟨⟨λt ht=>?_,ag,by have:=D.hl;show hd.length<=4;lia,by have:=D.len;show as.length<=6;lia⟩,λa ha=>(D.ok a ha).1⟩,λz=>?_,λx hx=>?_⟩
 ·rcases D.ho t ht with ⟨z,rfl,_⟩|⟨x,rfl,m⟩
  ·trivial
  ·exact hx m
 ·have:=D.len;have z':as=[]:=z;rw[z']at this;simp at this
 ·rcases D.ho _ hx with ⟨z,e,_⟩|⟨y,e,m⟩
  ·cases e
  ·cases e;exact j4.mp m
def QH(j:Nat)(h:j<6):∃x,x∈good/\jm (.str "w") (.int (1+(j:Int)))=some (.str x):=by
 have:j=0\/j=1\/j=2\/j=3\/j=4\/j=5:=by lia
 rcases this with rfl|rfl|rfl|rfl|rfl|rfl
 ·exact⟨"w",by decide+kernel,by kernel_rfl⟩
 ·exact⟨"ww",by decide+kernel,by kernel_rfl⟩
 ·exact⟨"www",by decide+kernel,by kernel_rfl⟩
 ·exact⟨"wwww",by decide+kernel,by kernel_rfl⟩
 ·exact⟨"wwwww",by decide+kernel,by kernel_rfl⟩
 ·exact⟨"wwwwww",by decide+kernel,by kernel_rfl⟩
def Tm.gv(t:Tm):Prop:=t.good/\∀z,t=.i z->z=0
def OP(mx:List Pu.D->Res):En->Out:=(fz [6] (Ao 4 (ae 6) (g2 aj (fm (aa (a6 6) (aa (g2 jm (gC (.str "w")) (g2 a9 (gC (.int 1)) (ae 5))) (aa (gC (.str "x")) (aa (gC (.int 0)) ah))))) (ai mx (aa (ae 0) (aa (g2 a9 (gC (.int 81)) (ae 5)) (aa (g2 Ei (gC (.int 4)) (g2 a9 (gC (.int 2)) (ae 2))) ah)))))))
def BO{G:Sub}{j:Nat}(Hm:∀z m:Int,0<=z->0<m->mx [kf ns,.int z,.int m]=.ok (.int (jl ns z m)))(hw:1<=w)(hj:j<6)(hx:Al x=true)(hn:lk G x=none)(hl:G.length<=900):
  ∃t:Tm,t.gv/\OP mx [.bo (kf ns),v1,.pu (.int w),v3,.od false (sD G),.pu (.int (j:Int)),.pu (.str x),v7,v8,v9,v10]=.nx [.bo (kf ns),v1,.pu (.int w),v3,.od false (sD (G++[(x,t)])),.pu (.int (j:Int)),.pu (.str x),v7,v8,v9,v10]:=by
 obtain⟨y,hy,em⟩:=QH j hj;have mn:Ei (.int 4) (.int (2+w))=some (.int (if 2+w<4 then 2+w else 4)):=rfl;have hb:0<(if 2+w<4 then 2+w else 4)/\(if 2+w<4 then 2+w else 4)<=4:=by split<;>lia
 generalize (if 2+w<4 then 2+w else 4)=m at mn hb;have e0:=Hm (81+(j:Int)) m (by lia) hb.1;obtain⟨r0,r1⟩:=d8 ns (81+(j:Int)) m hb.1;generalize jl ns (81+(j:Int)) m=c at e0 r0 r1;have hsl:(sD G).length<aM:=by rw[O1];show _<16777216;lia
 have fin:∀t:Tm,aj (.lst [.str x,.str y,.str "x",.int 0]) (.int c)=some t.D->OP mx [.bo (kf ns),v1,.pu (.int w),v3,.od false (sD G),.pu (.int (j:Int)),.pu (.str x),v7,v8,v9,v10]=.nx [.bo (kf ns),v1,.pu (.int w),v3,.od false (sD (G++[(x,t)])),.pu (.int (j:Int)),.pu (.str x),v7,v8,v9,v10]:=λt ht=>by
  have hp:=Jl t hn;simp[OP,em,mn,e0,ht,Ao,BE,yt,bz,hsl,hp]
 have:c=0\/c=1\/c=2\/c=3:=by lia
 rcases this with rfl|rfl|rfl|rfl
 ·exact⟨.s x,⟨hx,λz e=>by cases e⟩,fin (.s x) rfl⟩
 ·exact⟨.s y,⟨decide_eq_true hy,λz e=>by cases e⟩,fin (.s y) rfl⟩
 ·exact⟨.s "x",⟨show Al "x"=true by decide+kernel,λz e=>by cases e⟩,fin (.s "x") rfl⟩
 ·exact⟨.i 0,⟨trivial,λz e=>by cases e;rfl⟩,fin (.i 0) rfl⟩
theorem Qs(Hm:∀z m:Int,0<=z->0<m->mx [kf ns,.int z,.int m]=.ok (.int (jl ns z m)))(hw:1<=w):∀(xs:List Str)(j:Nat)(G:Sub)(v5 v6:Sl),j+xs.length<=6->(∀x∈xs,Al x=true)->xs.Nodup->(∀x∈xs,lk G x=none)->G.length+xs.length<=900->(∀p∈G,p.2.gv)->v6.own=false->
  ∃G' w5 w6,w6.own=false/\(∀p∈G',p.2.gv)/\G'.length<=G.length+xs.length/\turns (yf [5,6]) (OP mx) (mf j (xs.map Pu.D.str)) [.bo (kf ns),v1,.pu (.int w),v3,.od false (sD G),v5,v6,v7,v8,v9,v10]=.nx [.bo (kf ns),v1,.pu (.int w),v3,.od false (sD G'),w5,w6,v7,v8,v9,v10]
 |[],j,G,v5,v6,_,_,_,_,_,hg,h6=>⟨G,v5,v6,h6,hg,by simp,rfl⟩
 |x::xs,j,G,v5,v6,hj,hx,nd,hn,hl,hg,_=>by
  rw[aL]at hj hl;obtain⟨n1,n2⟩:=List.nodup_cons.mp nd;obtain⟨t,tg,e⟩:=BO (v1:=v1) (v3:=v3) (v7:=v7) (v8:=v8) (v9:=v9) (v10:=v10) (j:=j) Hm hw (by lia) (hx x aI) (hn x aI) (by lia);obtain⟨G',w5,w6,h0,h1,h2,h3⟩:=Qs (v1:=v1) (v3:=v3) (v7:=v7) (v8:=v8) (v9:=v9) (v10:=v10) Hm hw xs (j+1) (G++[(x,t)]) (.pu (.int (j:Int))) (.pu (.str x)) (by lia) (λy hy=>hx y (aE _ hy)) n2 (λy hy=>by
   rw[yn,hn y (aE _ hy)];exact aK λ(z:x=y)=>n1 (z.symm▸hy)) (by rw[aU];simp;lia) (λp hp=>by
   rcases List.mem_append.mp hp with hp|hp
   ·exact hg p hp
   ·rw[List.mem_singleton.mp hp];exact tg) rfl
  refine⟨G',w5,w6,h0,h1,by rw[aU]at h2;simp at h2⊢;lia,?_⟩;rw[aG];show turns _ _ (.tup [.int (j:Int),.str x]::mf (j+1) (xs.map Pu.D.str)) _=_;rw[b8 (δ1:=[.bo (kf ns),v1,.pu (.int w),v3,.od false (sD G),.pu (.int (j:Int)),.pu (.str x),v7,v8,v9,v10]) rfl,e];exact h3
def Ep(G:Sub)(a:At):At:=⟨a.nm,a.ts.map (we G)⟩
def K4{t:Tm}(hd:d W=.ok (.dct false (sD G)))(hk:k W=.ok t.D)(hx:x W=.ok t.D):km d k x W=.ok (we G t).D:=by
 unfold km;rw[hd,hk,hx];cases t with
 |i z=>
  have hn:=Lj z G;show Res.ok ((bg (sD G) (.inl z)).getD _)=_;rw[hn];rfl
 |s x=>
  have hn:=o7 x G;show Res.ok ((bg (sD G) (.inr x)).getD _)=.ok (((lk G x).getD (.s x)).D);rw[hn];cases lk G x<;>rfl
def PL:En->Res:=(b9 (a7 (g2 aj (ae 1) (gC (.int 1)))) [4] (gC (.bl true)) (iu (aa (g2 aj (ae 0) (gC (.int 0))) (aa (g1 d4 (b9 (a7 (g2 aj (ae 0) (gC (.int 1)))) [1] (gC (.bl true)) (km (ae 1) (ae 0) (a6 0)))) ah))))
def JZ{as:List At}(v0 v2 v3 v5 v6 v7 v8 v9 v10:Sl)(hl:as.length<=1000)(h4:∀a∈as,a.ts.length<=4):PL [v0,.bo (c8 hd as),v2,v3,.od false (sD G),v5,v6,v7,v8,v9,v10]=.ok (.lst ((as.map (Ep G)).map At.D)):=by
 unfold PL;rw[bV];refine m9 (f:=At.D) (by simp[c8]) (by lia) λa ha=>?_;have hc:∀W:En,W[0]?=some (.pu a.D)->W[1]?=some (.od false (sD G))->b9 (a7 (g2 aj (ae 0) (gC (.int 1)))) [1] (gC (.bl true)) (km (ae 1) (ae 0) (a6 0)) W=.ok (.lst (a.ts.map λt=>(we G t).D)):=λW h0 h1=>
  m9 (f:=Tm.D) (by simp[h0,At.D]) (by have:=h4 a ha;lia) λt ht=>K4 (t:=t) (by simp[cc,h1]) (by simp[cc]) (by simp[cc])
 have hm:(a.ts.map λt=>(we G t).D)=(a.ts.map (we G)).map Tm.D:=by rw[bV];rfl
 rw[hm]at hc;have hc':=hc (cc [4] [v0,.bo (c8 hd as),v2,v3,.od false (sD G),v5,v6,v7,v8,v9,v10] (.pu a.D)) rfl rfl;rw[show cc [4] [v0,.bo (c8 hd as),v2,v3,.od false (sD G),v5,v6,v7,v8,v9,v10] (.pu a.D)=[.pu a.D,.od false (sD G)]from rfl]at hc'⊢;simp only[At.D]at hc';simp[hc',At.D,Ep,-bV]
theorem Od:∀{G:Sub},lk G x=some v->(x,v)∈G
 |[],e=>by cases e
 |(y,u)::r,e=>by
  unfold lk at e
  by_cases q:y=x
  ·rw[aJ q]at e;cases e;rw[q];exact aI
  ·rw[aK q]at e;exact aE _ (Od e)
def OO:En->Out:=(ao (fz [6,6] (bx 10 (km (ae 4) (ae 6) (a6 6))))
 (ao (i9 (ie (cv (g1 (ba "str") (ae 10))) (g2 b0 (ae 10) (ae 8))) (bx 10 (g2 aj (g2 a9 (ae 8) (fm (aa (gC (.int 0)) ah))) (gC (.int 0)))) cn)
 (fz [10] (qu 9 (a6 10)))))
def IG(kn:List Str)(t:Tm):Prop:=(∃z,t=.i z/\z∈V4)\/∃x,t=.s x/\x∈kn
def BM{kn:List Str}{t:Tm}{acc:List Tm}(v0 v1 v2 v3 v5 v7 v10:Sl)(hg:∀p∈G,p.2.gv)(hk:∀x∈kn,Al x=true)(hkl:kn.length<=900)(ht:t.good)(hz:∀z,t=.i z->z∈V4)(hl:acc.length<=1000):
  ∃(t':Tm) (w10:Sl),IG kn t'/\OO [v0,v1,v2,v3,.od false (sD G),v5,.pu t.D,v7,.pu (.lst (kn.map Pu.D.str)),.ow (acc.map Tm.D),v10]=.nx [v0,v1,v2,v3,.od false (sD G),v5,.pu t.D,v7,.pu (.lst (kn.map Pu.D.str)),.ow ((acc++[t']).map Tm.D),w10]:=by
 have hlt:acc.length<16777216:=by lia
 have sg:(we G t).good/\∀z,we G t=.i z->z∈V4:=by
  cases t with
  |i z=>exact⟨trivial,hz⟩
  |s x=>
   show((lk G x).getD (.s x)).good/\_;cases e:lk G x with
   |none=>exact⟨ht,λz q=>by have q':((lk G x).getD (.s x))=.i z:=q;rw[e]at q';cases q'⟩
   |some v=>
    have hv:v.gv:=hg (x,v) (Od e);refine⟨hv.1,λz q=>?_⟩;have q':((lk G x).getD (.s x))=.i z:=q;rw[e]at q';rw[hv.2 z q']
    decide
 have s10:fz [6,6] (bx 10 (km (ae 4) (ae 6) (a6 6))) [v0,v1,v2,v3,.od false (sD G),v5,.pu t.D,v7,.pu (.lst (kn.map Pu.D.str)),.ow (acc.map Tm.D),v10]=.nx [v0,v1,v2,v3,.od false (sD G),v5,.pu t.D,v7,.pu (.lst (kn.map Pu.D.str)),.ow (acc.map Tm.D),.pu (we G t).D]:=by
  rw[NA];show bx 10 (km (ae 4) (ae 6) (a6 6)) [v0,v1,v2,v3,.od false (sD G),v5,.pu t.D,v7,.pu (.lst (kn.map Pu.D.str)),.ow (acc.map Tm.D),v10]=_;rw[Z3,K4 (G:=G) (t:=t) (by simp) (by simp) (by simp)];rfl
 unfold OO;rw[gy,s10];dsimp only;generalize we G t=t1 at sg⊢;cases t1 with
 |i z=>
  refine⟨.i z,.pu (.int z),.inl ⟨z,rfl,sg.2 z rfl⟩,?_⟩;simp[Tm.D,hlt]
 |s x=>
  have hx:Al x=true:=sg.1;have inn:=(Ca (l:=kn) (x:=x) (λy hy=>je (lq (hk y hy))) (je (lq hx))).2
  by_cases m:x∈kn
  ·rw[decide_eq_true m]at inn;refine⟨.s x,.pu (.str x),.inr ⟨x,rfl,m⟩,?_⟩;simp[Tm.D,inn,hlt]
  ·rw[decide_eq_false m]at inn;have ad:a9 (.lst (kn.map Pu.D.str)) (.lst [.int 0])=some (.lst (kn.map Pu.D.str++[.int 0])):=aJ (show _<=16777216 by rw[aF];simp;lia);cases kn with
   |nil=>
    refine⟨.i 0,.pu (.int 0),.inl ⟨0,rfl,by decide⟩,?_⟩;have ix:aj (.lst ([].map Pu.D.str++[.int 0])) (.int 0)=some (.int 0):=rfl;simp only[jB,fJ]at inn ad ix;simp[Tm.D,inn,ad,ix,hlt]
   |cons y kn=>
    refine⟨.s y,.pu (.str y),.inr ⟨y,rfl,aI⟩,?_⟩;have ix:aj (.lst ((y::kn).map Pu.D.str++[.int 0])) (.int 0)=some (.str y):=L2.xu (j:=0) rfl;generalize (y::kn).map Pu.D.str=K at inn ad ix;simp[Tm.D,inn,ad,ix,hlt]
theorem Qu{kn:List Str}(v0 v1 v2 v3 v5 v7:Sl)(hg:∀p∈G,p.2.gv)(hk:∀x∈kn,Al x=true)(hkl:kn.length<=900):∀(ts acc:List Tm)(v6 v10:Sl),(∀t∈ts,t.good/\∀z,t=.i z->z∈V4)->(∀t∈acc,IG kn t)->acc.length+ts.length<=900->
  ∃(hs:List Tm) (w6 w10:Sl),(∀t∈hs,IG kn t)/\hs.length=acc.length+ts.length/\turns (ar 6) OO (ts.map Tm.D) [v0,v1,v2,v3,.od false (sD G),v5,v6,v7,.pu (.lst (kn.map Pu.D.str)),.ow (acc.map Tm.D),v10]=.nx [v0,v1,v2,v3,.od false (sD G),v5,w6,v7,.pu (.lst (kn.map Pu.D.str)),.ow (hs.map Tm.D),w10]
 |[],acc,v6,v10,_,ha,_=>⟨acc,v6,v10,ha,by simp,rfl⟩
 |t::ts,acc,v6,v10,h,ha,hl=>by
  rw[aL]at hl;obtain⟨g1,g2⟩:=h t aI;obtain⟨t',w10,q,e⟩:=BM v0 v1 v2 v3 v5 v7 v10 hg hk hkl g1 g2 (acc:=acc) (by lia);obtain⟨hs,u6,u10,h1,h2,h3⟩:=Qu v0 v1 v2 v3 v5 v7 hg hk hkl ts (acc++[t']) (.pu t.D) w10 (λs hs=>h s (aE _ hs)) (λs hs=>by
   rcases List.mem_append.mp hs with hs|hs
   ·exact ha s hs
   ·rw[List.mem_singleton.mp hs];exact q) (by rw[aU];simp;lia)
  refine⟨hs,u6,u10,h1,by rw[h2,aU];simp;lia,?_⟩;rw[aG,b8 (δ1:=[v0,v1,v2,v3,.od false (sD G),v5,.pu t.D,v7,.pu (.lst (kn.map Pu.D.str)),.ow (acc.map Tm.D),v10]) rfl,e];exact h3
def Mt(h:∀a∈as,a.ok):(gz [] (bc as)).length<=6:=
 D8 _ zg (qf _ [] fI) λx hx=>Bl h x (by simpa using(jt x _ []).mp hx)
def O3(hg:∀p∈G,p.2.gv){t:Tm}(ht:t.good):(we G t).good:=by
 cases t with
 |i z=>trivial
 |s x=>
  show((lk G x).getD (.s x)).good;cases e:lk G x with
  |none=>exact ht
  |some v=>exact(hg (x,v) (Od e)).1
def GC(a:At):Prop:=a.good/\Sh a
def FK(hg:∀p∈G,p.2.gv)(h:GC a):GC (Ep G a):=by
 obtain⟨⟨h1,h2,h3,h4⟩,h5⟩:=h;refine⟨⟨h1,?_,?_,λt ht=>?_⟩,?_⟩
 ·show 1<=(a.ts.map _).length;rw[aF];exact h2
 ·show(a.ts.map _).length<=4;rw[aF];exact h3
 ·obtain⟨u,hu,rfl⟩:=List.mem_map.mp ht;exact O3 hg (h4 u hu)
 ·unfold Sh Ep;dsimp only;rw[aF];exact h5
def XY(mx ak at_ si:List Pu.D->Res):En->Out:=(ao (i9 (g2 dj (ae 2) (gC (.int 2))) (bx 7 (g2 a9 (ae 7) (fm (aa (ai at_ (aa (ae 0) (aa (gC (.int 90)) ah))) ah)))) cn)
 (ao (i9 (ie (g2 dj (ae 2) (gC (.int 3))) (g2 Ef (g1 bu (ae 7)) (gC (.int 1)))) (bx 7 (M5 (ae 7) (some (gC (.int 1))) none)) cn)
 (ao (bx 8 (ai si (aa (ae 7) ah)))
 (ao (iz 9 (fm ah))
 (ao (c7 (ar 6) (a7 (g2 aj (ae 1) (gC (.int 0)))) OO)
 (bw (iu (aa (g1 d4 (ae 9)) (aa (g1 d4 (ae 7)) ah)))))))))
def YL(mx ak at_ si:List Pu.D->Res):En->Out:=(ao (yx 4)
 (ao (c7 (yf [5,6]) (tf (ai si (aa (g2 aj (ae 1) (gC (.int 1))) ah))) (OP mx))
 (ao (fz [6,6] (iz 7 PL))
 (XY mx ak at_ si))))
def oB(mx ak at_ si:List Pu.D->Res):En->Out:=(ao (bx 2 (ai mx (aa (ae 0) (aa (gC (.int 80)) (aa (gC (.int 4)) ah)))))
 (ao (i9 (g2 dj (ae 2) (gC (.int 0))) (ao (bx 3 (ai ak (aa (ae 0) (aa (gC (.int 40)) (aa (gC (.int 3)) ah)))))
 (bw (iu (aa (M5 (g2 a9 (g2 aj (ae 3) (gC (.int 0))) (iu (aa (gC (.int 0)) (aa (gC (.int 0)) ah)))) none (some (g1 bu (g2 aj (ae 1) (gC (.int 0)))))) (aa (g2 aj (ae 3) (gC (.int 1))) ah))))) cn)
 (YL mx ak at_ si)))
def Xv(n:Nat):Ax n=oB (af (tab n) az) (af (tab n) f7) (af (tab n) i4) (af (tab n) cy):=rfl
section
variable{mx ak at_ si:List Pu.D->Res}
def DY{hd:List Tm}{bs:List At}(hg:∀p∈G,p.2.gv)(hb:∀b∈bs,GC b)(hb1:1<=bs.length)(hb4:bs.length<=4)(hA:GC A90)(hh:∀t∈hd,t.good/\∀z,t=.i z->z∈V4)(hl:hd.length<=2)
  (ea:at_ [S,.int 90]=.ok A90.D)(es:∀cs:List At,(∀c∈cs,GC c)->cs.length<=5->si [.lst (cs.map At.D)]=.ok (.lst ((gz [] (bc cs)).map Pu.D.str))):
  ∃a:zh,QA a/\a.1.length=hd.length/\XY mx ak at_ si [.bo S,.bo (c8 hd as),.pu (.int w),v3,.od false (sD G),v5,v6,.ow (bs.map At.D),.no,.no,.no]=.rt (aD a):=by
 have fin:∀(cs:List At)(s7:Sl),(s7=.ow (cs.map At.D)\/s7=.pu (.lst (cs.map At.D)))->(∀c∈cs,GC c)->1<=cs.length->cs.length<=5->
   ∃a:zh,QA a/\a.1.length=hd.length/\(ao (bx 8 (ai si (aa (ae 7) ah))) (ao (iz 9 (fm ah)) (ao (c7 (ar 6) (a7 (g2 aj (ae 1) (gC (.int 0)))) OO) (bw (iu (aa (g1 d4 (ae 9)) (aa (g1 d4 (ae 7)) ah))))))) [.bo S,.bo (c8 hd as),.pu (.int w),v3,.od false (sD G),v5,v6,s7,.no,.no,.no]=.rt (aD a):=by
  intro cs s7 h7 hc c1 c5;have e8:=es cs hc c5;have kg:∀x∈gz [] (bc cs),Al x=true:=λx hx=>vm (λc hc'=>(hc c hc').1) x (by simpa using(jt x _ []).mp hx);have kl:(gz [] (bc cs)).length<=900:=by
   have q1:=ya (bc cs) [];have q2:=xq (as:=cs) λa ha=>(hc a ha).1.2.2.1;simp at q1
   lia
  obtain⟨hs,w6,w10,h1,h2,h3⟩:=Qu (G:=G) (kn:=gz [] (bc cs)) (.bo S) (.bo (c8 hd as)) (.pu (.int w)) v3 v5 s7 hg kg kl hd [] v6 .no hh (λt ht=>by cases ht) (by simp;lia);have hf:c7 (ar 6) (a7 (g2 aj (ae 1) (gC (.int 0)))) OO [.bo S,.bo (c8 hd as),.pu (.int w),v3,.od false (sD G),v5,v6,s7,.pu (.lst ((gz [] (bc cs)).map Pu.D.str)),.ow [],.no]=.nx [.bo S,.bo (c8 hd as),.pu (.int w),v3,.od false (sD G),v5,w6,s7,.pu (.lst ((gz [] (bc cs)).map Pu.D.str)),.ow (hs.map Tm.D),w10]:=by
   rw[cu (ds:=hd.map Tm.D) (by simp[c8])];exact h3
  refine⟨(hs,cs),⟨⟨⟨λt ht=>?_,λc hc'=>(hc c hc').1,?_,?_⟩,λc hc'=>(hc c hc').2⟩,⟨λz=>?_,λx hx=>?_⟩,?_,c5,λz hz=>?_⟩,?_,?_⟩
  ·rcases h1 t ht with ⟨z,rfl,_⟩|⟨x,rfl,m⟩
   ·trivial
   ·exact kg x m
  ·show hs.length<=4;rw[h2];simp;lia
  ·show cs.length<=6;lia
  ·have z':cs=[]:=z;rw[z']at c1;simp at c1
  ·rcases h1 _ hx with ⟨z,e,_⟩|⟨y,e,m⟩
   ·cases e
   ·cases e;exact j4.mp (by simpa using(jt x _ []).mp m)
  ·show hs.length<=2;rw[h2];simp;lia
  ·rcases h1 _ hz with ⟨y,e,m⟩|⟨y,e,_⟩
   ·cases e;exact m
   ·cases e
  ·show hs.length=hd.length;rw[h2];simp
  ·unfold c8 at hf;rcases h7 with rfl|rfl
   ·simp[e8,hf,aD,c8]
   ·simp[e8,hf,aD,c8]
 unfold XY;have c2:g2 dj (ae 2) (gC (.int 2)) [.bo S,.bo (c8 hd as),.pu (.int w),v3,.od false (sD G),v5,v6,.ow (bs.map At.D),.no,.no,.no]=.ok (.bl (w==2)):=rfl;rw[gy,Fz,c2]
 by_cases w2:w=2
 ·subst w2;have ad:a9 (.lst (bs.map At.D)) (.lst [A90.D])=some (.lst ((bs++[A90]).map At.D)):=by
   rw[dH];exact aJ (show _<=16777216 by rw[aF];simp;lia)
  have s7:bx 7 (g2 a9 (ae 7) (fm (aa (ai at_ (aa (ae 0) (aa (gC (.int 90)) ah))) ah))) [.bo S,.bo (c8 hd as),.pu (.int 2),v3,.od false (sD G),v5,v6,.ow (bs.map At.D),.no,.no,.no]=.nx [.bo S,.bo (c8 hd as),.pu (.int 2),v3,.od false (sD G),v5,v6,.pu (.lst ((bs++[A90]).map At.D)),.no,.no,.no]:=by
   simp[ea,ad,-dH]
  obtain⟨a,A,l,e⟩:=fin (bs++[A90]) (.pu (.lst ((bs++[A90]).map At.D))) (.inr rfl) (λc hc=>by
   rcases List.mem_append.mp hc with hc|hc
   ·exact hb c hc
   ·rw[List.mem_singleton.mp hc];exact hA) (by simp) (by simp;lia)
  refine⟨a,A,l,?_⟩;rw[show((2:Int)==2)=true from rfl];simp only[fj,s7];have c3:ie (g2 dj (ae 2) (gC (.int 3))) (g2 Ef (g1 bu (ae 7)) (gC (.int 1))) [.bo S,.bo (c8 hd as),.pu (.int 2),v3,.od false (sD G),v5,v6,.pu (.lst ((bs++[A90]).map At.D)),.no,.no,.no]=.ok (.bl false):=rfl;rw[gy,Fz,c3];simp only[fj,Bs];exact e
 ·have w2':(w==2)=false:=beq_eq_false_iff_ne.mpr w2;rw[w2'];simp only[fj,Bs]
  by_cases w3:w=3/\1<bs.length
  ·obtain⟨rfl,hlb⟩:=w3;have c3:ie (g2 dj (ae 2) (gC (.int 3))) (g2 Ef (g1 bu (ae 7)) (gC (.int 1))) [.bo S,.bo (c8 hd as),.pu (.int 3),v3,.od false (sD G),v5,v6,.ow (bs.map At.D),.no,.no,.no]=.ok (.bl true):=by
    have:(1:Int)<(bs.length:Int):=by lia
    simp[this]
   have sl:o9 (.lst (bs.map At.D)) (some 1) none=some (.lst ((bs.drop 1).map At.D)):=by
    show some (Pu.D.lst (zx _ _ _))=_;cases bs with
    |nil=>simp at hlb
    |cons b bs=>
     have:=QX b.D (bs.map At.D);have e:zx (b.D::bs.map At.D) (some 1) none=bs.map At.D:=by
      have q:some (Pu.D.tup (zx (b.D::bs.map At.D) (some 1) none))=some (.tup (bs.map At.D)):=this;injection q with q
      injection q
     rw[aG,e];rfl
   obtain⟨a,A,l,e⟩:=fin (bs.drop 1) (.pu (.lst ((bs.drop 1).map At.D))) (.inr rfl) (λc hc=>hb c (iD hc)) (by rw[dR];lia) (by rw[dR];lia);refine⟨a,A,l,?_⟩;have s7:bx 7 (M5 (ae 7) (some (gC (.int 1))) none) [.bo S,.bo (c8 hd as),.pu (.int 3),v3,.od false (sD G),v5,v6,.ow (bs.map At.D),.no,.no,.no]=.nx [.bo S,.bo (c8 hd as),.pu (.int 3),v3,.od false (sD G),v5,v6,.pu (.lst ((bs.drop 1).map At.D)),.no,.no,.no]:=by
    simp[M5,HL,sl,-nZ]
   rw[gy,Fz,c3];simp only[fj,s7];exact e
  ·have c3:ie (g2 dj (ae 2) (gC (.int 3))) (g2 Ef (g1 bu (ae 7)) (gC (.int 1))) [.bo S,.bo (c8 hd as),.pu (.int w),v3,.od false (sD G),v5,v6,.ow (bs.map At.D),.no,.no,.no]=.ok (.bl false):=by
    by_cases h3:w=3
    ·have:¬(1:Int)<(bs.length:Int):=λz=>w3 ⟨h3,by lia⟩;simp[h3,this]
    ·have h3':(w==3)=false:=beq_eq_false_iff_ne.mpr h3;simp[h3']
   obtain⟨a,A,l,e⟩:=fin bs (.ow (bs.map At.D)) (.inl rfl) hb hb1 (by lia);refine⟨a,A,l,?_⟩;rw[gy,Fz,c3];simp only[fj,Bs];exact e
end
def Da(D:Drawn hd as):QA (hd,as):=by
 obtain⟨A,i⟩:=C9 D;refine⟨A,i,D.hl,by have:=D.len;show as.length<=5;lia,λz hz=>?_⟩;rcases D.ho _ hz with ⟨y,e,q⟩|⟨y,e,_⟩
 ·cases e;rcases q with rfl|rfl<;>decide
 ·cases e
def WL{a:At}(h:a.ok):GC a:=by
 have D:Drawn [] [a]:=⟨by simp,λb hb=>by rw[List.mem_singleton.mp hb];exact h,by simp,λt ht=>by cases ht⟩;obtain⟨A,_⟩:=C9 D;exact⟨A.g a (List.mem_singleton.mpr rfl),A.sh a (List.mem_singleton.mpr rfl)⟩
def LY{hd hd2:List Tm}(D2:Drawn hd2 as2)(hl:hd.length<=2):QA ((hd2++[Tm.i 0,Tm.i 0]).take hd.length,as2)/\((hd2++[Tm.i 0,.i 0]).take hd.length).length=hd.length:=by
 have A:=Da D2;have ln:((hd2++[Tm.i 0,.i 0]).take hd.length).length=hd.length:=by rw[fC,aU];simp;lia
 have sub:∀t∈(hd2++[Tm.i 0,.i 0]).take hd.length,t∈hd2\/t=.i 0:=λt ht=>by
  rcases List.mem_append.mp (List.mem_of_mem_take ht)with h|h
  ·exact .inl h
  ·simp at h;exact .inr h
 refine⟨⟨⟨⟨λt ht=>?_,A.g,by show _<=4;rw[ln];lia,A.al⟩,A.sh⟩,⟨A.ask.1,λx hx=>?_⟩,by show _<=2;rw[ln];exact hl,A.l5,λz hz=>?_⟩,ln⟩
 ·rcases sub t ht with h|rfl
  ·exact A.h t h
  ·trivial
 ·rcases sub _ hx with h|e
  ·exact A.ask.2 x h
  ·cases e
 ·rcases sub _ hz with h|e
  ·exact A.hz z h
  ·cases e;decide
def Xu(n:Nat)(ns:List Int){hd:List Tm}(D:Drawn hd as):∃a:zh,QA a/\a.1.length=hd.length/\af (tab (n+6)) ly [kf ns,c8 hd as]=.ok (aD a):=by
 rw[Kr,Xv];have Hm:∀z m:Int,0<=z->0<m->af (tab (n+5)) az [kf ns,.int z,.int m]=.ok (.int (jl ns z m)):=λz m hz hm=>ig (n+3) ns z m hz hm;have e0:=Hm 80 4 (by decide) (by decide);obtain⟨r0,r1⟩:=d8 ns 80 4 (by decide);generalize jl ns 80 4=w at e0 r0 r1;have z0:bq [true,true] [kf ns,c8 hd as]++bE (11 - [kf ns,c8 hd as].length) Sl.no=[.bo (kf ns),.bo (c8 hd as),.no,.no,.no,.no,.no,.no,.no,.no,.no]:=rfl;rw[z0];have s2:∀mx:List Pu.D->Res,mx [kf ns,.int 80,.int 4]=.ok (.int w)->bx 2 (ai mx (aa (ae 0) (aa (gC (.int 80)) (aa (gC (.int 4)) ah)))) [.bo (kf ns),.bo (c8 hd as),.no,.no,.no,.no,.no,.no,.no,.no,.no]=.nx [.bo (kf ns),.bo (c8 hd as),.pu (.int w),.no,.no,.no,.no,.no,.no,.no,.no]:=λmx h=>by
  simp[h]
 have cw:g2 dj (ae 2) (gC (.int 0)) [.bo (kf ns),.bo (c8 hd as),.pu (.int w),.no,.no,.no,.no,.no,.no,.no,.no]=.ok (.bl (w==0)):=rfl;unfold oB;rw[gy,s2 _ e0];dsimp only;rw[gy,Fz,cw];have hl2:=D.hl
 by_cases w0:w=0
 ·subst w0;obtain⟨hd2,as2,D2,e2⟩:=F4 n ns 40 3 (by decide) (by decide) (by decide);obtain⟨A,ln⟩:=LY (hd:=hd) D2 hl2;refine⟨_,A,ln,?_⟩;have h22:=D2.hl;have ad:a9 (.tup (hd2.map Tm.D)) (.tup [.int 0,.int 0])=some (.tup ((hd2++[Tm.i 0,.i 0]).map Tm.D)):=by
   rw[dH];exact aJ (show _<=16777216 by rw[aF];simp;lia)
  have sl:=GY ((hd2++[Tm.i 0,.i 0]).map Tm.D) hd.length;rw[<-List.map_take]at sl;generalize hg:hd2++[Tm.i 0,.i 0]=L at *;unfold c8 at e2⊢;simp[e2,ad,M5,HL,sl,aD,c8,-List.map_take]
 ·have w0':(w==0)=false:=beq_eq_false_iff_ne.mpr w0;rw[w0'];simp only[fj,Bs];have e4:∀(si:List Pu.D->Res),si [.tup (as.map At.D)]=.ok (.lst ((gz [] (bc as)).map Pu.D.str))->tf (ai si (aa (g2 aj (ae 1) (gC (.int 1))) ah)) [.bo (kf ns),.bo (c8 hd as),.pu (.int w),.no,.od false [],.no,.no,.no,.no,.no,.no]=.ok (mf 0 ((gz [] (bc as)).map Pu.D.str)):=λsi h=>by
   unfold c8;simp[tf,NV,h]
  obtain⟨A,iA⟩:=C9 D;have ls:=Gz (n+4) true (as:=as) (λx hx=>A.toAskd.a4 x hx) (by have:=A.al;show as.length<=200;have:=D.len;lia);simp only[if_true]at ls;obtain⟨G,w5,w6,o6,g1,g2',g3⟩:=Qs (mx:=af (tab (n+5)) az) (ns:=ns) (w:=w) (v1:=.bo (c8 hd as)) (v3:=.no) (v7:=.no) (v8:=.no) (v9:=.no) (v10:=.no) Hm (by lia) (gz [] (bc as)) 0 [] .no .no (by have:=Mt D.ok;lia) (λx hx=>vm (λa ha=>A.g a ha) x (by simpa using(jt x _ []).mp hx)) (qf _ [] fI) (λx hx=>rfl) (by have:=Mt D.ok;simp;lia) (λp hp=>by cases hp) rfl;have hf:c7 (yf [5,6]) (tf (ai (af (tab (n+5)) cy) (aa (g2 aj (ae 1) (gC (.int 1))) ah))) (OP (af (tab (n+5)) az)) [.bo (kf ns),.bo (c8 hd as),.pu (.int w),.no,.od false [],.no,.no,.no,.no,.no,.no]=.nx [.bo (kf ns),.bo (c8 hd as),.pu (.int w),.no,.od false (sD G),w5,w6,.no,.no,.no,.no]:=by
   rw[cu (e4 _ ls)];exact g3
  have bK:∀b∈as.map (Ep G),GC b:=λb hb=>by
   obtain⟨a,ha,rfl⟩:=List.mem_map.mp hb;exact FK g1 ⟨A.g a ha,A.sh a ha⟩
  have dl:=D.len;have s7:fz [6,6] (iz 7 PL) [.bo (kf ns),.bo (c8 hd as),.pu (.int w),.no,.od false (sD G),w5,w6,.no,.no,.no,.no]=.nx [.bo (kf ns),.bo (c8 hd as),.pu (.int w),.no,.od false (sD G),w5,w6,.ow ((as.map (Ep G)).map At.D),.no,.no,.no]:=by
   show iz 7 PL (frzs [6,6] [.bo (kf ns),.bo (c8 hd as),.pu (.int w),.no,.od false (sD G),w5,w6,.no,.no,.no,.no])=_;have fz6:frzs [6,6] [.bo (kf ns),.bo (c8 hd as),.pu (.int w),.no,.od false (sD G),w5,w6,.no,.no,.no,.no]=[.bo (kf ns),.bo (c8 hd as),.pu (.int w),.no,.od false (sD G),w5,w6,.no,.no,.no,.no]:=by
    cases w6 with
    |ow _=>cases o6
    |od _ _=>cases o6
    |_=>rfl
   rw[fz6,Z4,JZ (.bo (kf ns)) (.pu (.int w)) .no w5 w6 .no .no .no .no (by show as.length<=1000;lia) λa ha=>(A.toAskd.a4 a ha).2];rfl
  have ea:=P4 (n+1) ns 90 (by decide);obtain⟨a,QAa,la,e⟩:=DY (mx:=af (tab (n+5)) az) (ak:=af (tab (n+5)) f7) (at_:=af (tab (n+5)) i4) (si:=af (tab (n+5)) cy) (hd:=hd) (as:=as) (S:=kf ns) (w:=w) (v3:=.no) (v5:=w5) (v6:=w6) (G:=G) (bs:=as.map (Ep G)) (A90:=Cw ns 90) g1 bK (by rw[aF];lia) (by rw[aF];lia) (WL (P2 ns 90)) (λt ht=>⟨A.h t ht,λz hz=>(Da D).hz z (hz▸ht)⟩) hl2 ea (λcs hc hl=>by
   have:=Gz (n+4) false (as:=cs) (λc hc'=>⟨(hc c hc').1.w,(hc c hc').1.2.2.1⟩) (by lia);simpa using this)
  refine⟨a,QAa,la,?_⟩;unfold YL;rw[gy,show yx 4 [.bo (kf ns),.bo (c8 hd as),.pu (.int w),.no,.no,.no,.no,.no,.no,.no,.no]=.nx [.bo (kf ns),.bo (c8 hd as),.pu (.int w),.no,.od false [],.no,.no,.no,.no,.no,.no]from rfl];dsimp only;rw[gy,hf];dsimp only;rw[gy,s7];dsimp only;rw[e];rfl
theorem Fd:∀R:List (List Int),fb (R.map tI)=some (R.map λr=>.tuple (r.map eC))
 |[]=>rfl
 |r::R=>by rw[aG,fb,Fd R,tI,fq,sk];rfl
theorem Lf:∀R:List (List Int),bC (R.map λr=>.tuple (r.map eC))=true
 |[]=>rfl
 |r::R=>by rw[aG,bC,Lf R,eF,f6];rfl
def BW(r t:List Int):bZ (.tuple (r.map eC)) (.tuple (t.map eC))=decide (r=t):=by
 rw[bZ];exact Qi (f:=eC) (λa b=>by rw[bZ];by_cases h:a=b<;>simp[h]) r t
def BK{R:List (List Int)}:lr (tI r) (.lst (R.map tI))=some (.bl (!decide (r∈R))):=by
 have e:Eg (tI r) (.lst (R.map tI))=some (decide (r∈R)):=by
  show(match fb (R.map tI),fq (tI r)with
   |some ps,some q=>if bC ps && cU q then some (ps.any λy=>bZ y q)else none
   |_,_=>none)=_
  have et:fq (tI r)=some (.tuple (r.map eC)):=by rw[tI,fq,sk]
  rw[Fd,et];dsimp only;have dp:(PyData.tuple (r.map eC)).depth<=63:=by
   rw[jF];have:=wx r
   lia
  rw[Lf,sd (by rw[eF];exact f6 r) dp];show some _=_
  congr 1
  induction R with
  |nil=>rfl
  |cons b R ih=>
   rw[aG,fQ,ih,BW]
   by_cases q:r=b
   ·simp[q]
   ·have q':¬b=r:=λz=>q z.symm;simp[q,q']
 unfold lr;rw[e];rfl
def Q5{R1 R2:List (List Int)}(h:∀r∈R1,r∈R2)(hr:r W=.ok (R1.map tI))(hl:R1.length<=1000)(hv:∀d,cc ix W (.pu d)=[.pu d,v])(hv2:v=.pu (.lst (R2.map tI))):
  b9 r ix (g2 b0 (ae 0) (ae 1)) (a6 0) W=.ok (.lst []):=by
 have:=A4 (r:=r) (ix:=ix) (t:=g2 b0 (ae 0) (ae 1)) (W:=W) (l:=R1) (f:=tI) (b:=λx=> !decide (x∈R2)) hr (by lia) λx hx=>by
  rw[hv,hv2];have e:=BK (r:=x) (R:=R2);simp[e]
 rw[this,List.filter_eq_nil_iff.mpr λx hx=>by simp[h x hx]];rfl
def Ka(n:Nat){one other:zh}(A1:QA one)(A2:QA other)(hl:one.1.length=other.1.length):af (tab (n+11)) u0 [aD one,aD other]=.ok (.bl ((M7 one other).isSome && (M7 other one).isSome)):=by
 obtain⟨d1,x1,a1,a2,a3,_⟩:=rh n A1.toGA A2.toGA A1.ask A2.ask hl;obtain⟨d2,x2,b1,b2,b3,_⟩:=rh n A2.toGA A1.toGA A2.ask A1.ask hl.symm;rw[BX];generalize aD one=o1 at *;generalize aD other=o2 at *;cases h:(M7 one other).isSome with
 |false=>rw[h]at a3;simp[Ia,a1,a2,a3]
 |true=>rw[h]at a3;simp[Ia,a1,a2,a3,b1,b2,b3]
def KO(ak ot bk an wi al ia:List Pu.D->Res):En->Out:=(ao (bx 1 (ai ak (aa (ae 0) (aa (gC (.int 0)) (aa (gC (.int 3)) ah)))))
 (ao (bx 2 (ai ot (aa (ae 0) (aa (ae 1) ah))))
 (ao (bx 3 (ai bk (aa (ae 0) (aa (gC (.int 100)) (aa (gC (.int 9)) ah)))))
 (ao (bx 4 (ai an (aa (ae 1) (aa (ae 3) ah))))
 (ao (bx 5 (ai an (aa (ae 2) (aa (ae 3) ah))))
 (ao (fz [1,2] (bx 6 (g2 dj (g2 aj (ai wi (aa (a6 1) (aa (a6 2) ah))) (gC (.int 0))) (gC (.str "way")))))
 (ao (fz [2,1] (bx 7 (g2 dj (g2 aj (ai wi (aa (a6 2) (aa (a6 1) ah))) (gC (.int 0))) (gC (.str "way")))))
 (ao (i9 (ie (cv (ae 6)) (g2 fx (b9 (a7 (ae 4)) [5] (g2 b0 (ae 0) (ae 1)) (a6 0)) (fm ah))) (bw (gC (.bl false))) cn)
 (ao (i9 (ie (cv (ae 7)) (g2 fx (b9 (a7 (ae 5)) [4] (g2 b0 (ae 0) (ae 1)) (a6 0)) (fm ah))) (bw (gC (.bl false))) cn)
 (ao (fz [1,2] (bx 8 (ai al (aa (a6 1) (aa (a6 2) ah)))))
 (ao (i9 (vc (gc (cv (g1 (ba "bool") (ae 8)))) (g2 fx (ae 8) (ie (a6 6) (a6 7)))) (bw (gC (.bl false))) cn)
 (ao (fz [1,1,1,1] (i9 (vc (g2 fo (ai al (aa (a6 1) (aa (a6 1) ah))) (gC (.bl true))) (g2 fx (g2 aj (ai wi (aa (a6 1) (aa (a6 1) ah))) (gC (.int 0))) (gC (.str "way")))) (bw (gC (.bl false))) cn))
 (ao (bx 9 (iu (aa (g2 aj (ae 1) (gC (.int 0))) (aa (M5 (g2 aj (ae 1) (gC (.int 1))) (some (gC (.int 1))) none) ah))))
 (fz [1,9] (bw (vc (gc (ai ia (aa (ae 9) ah))) (g2 dj (g2 aj (ai wi (aa (a6 1) (aa (a6 9) ah))) (gC (.int 0))) (gC (.str "way")))))))))))))))))))
def W4(n:Nat):HV n=KO (af (tab n) f7) (af (tab n) ly) (af (tab n) nc) (af (tab n) gm) (af (tab n) ic) (af (tab n) u0) (af (tab n) cx):=rfl
def Q6:fx (.lst []) (.lst [])=some (.bl false):=rfl
def CN{ak ot bk an wi al ia:List Pu.D->Res}{S B d6 x6 d7 x7 d10 x10:Pu.D}{one oth:zh}{R1 R2:List (List Int)}{f g b:Bool}(l6:one.2.length<=6)
  (e1:ak [S,.int 0,.int 3]=.ok (aD one))(e2:ot [S,aD one]=.ok (aD oth))(e3:bk [S,.int 100,.int 9]=.ok B)(e4:an [aD one,B]=.ok (.lst (R1.map tI)))(e5:an [aD oth,B]=.ok (.lst (R2.map tI)))
  (e6:wi [aD one,aD oth]=.ok d6) (i6:aj d6 (.int 0)=some x6) (q6:dj x6 (.str "way")=some (.bl f))
  (e7:wi [aD oth,aD one]=.ok d7) (i7:aj d7 (.int 0)=some x7) (q7:dj x7 (.str "way")=some (.bl g))
  (l1:R1.length<=1000) (l2:R2.length<=1000) (m1:f=true->∀r∈R1,r∈R2) (m2:g=true->∀r∈R2,r∈R1)
  (e8:al [aD one,aD oth]=.ok (.bl (f && g))) (e9:al [aD one,aD one]=.ok (.bl true))
  (e10:wi [aD one,aD one]=.ok d10) (i10:aj d10 (.int 0)=some x10) (q10:fx x10 (.str "way")=some (.bl false))
  (e11:ia [aD (one.1,one.2.drop 1)]=.ok (.bl b)) (e12:b=true->∃d x,wi [aD one,aD (one.1,one.2.drop 1)]=.ok d/\aj d (.int 0)=some x/\dj x (.str "way")=some (.bl true)):
  KO ak ot bk an wi al ia [.pu S,.no,.no,.no,.no,.no,.no,.no,.no,.no]=.rt (.bl true):=by
 have c1:ie (cv (ae 6)) (g2 fx (b9 (a7 (ae 4)) [5] (g2 b0 (ae 0) (ae 1)) (a6 0)) (fm ah)) [.pu S,.pu (aD one),.pu (aD oth),.pu B,.pu (.lst (R1.map tI)),.pu (.lst (R2.map tI)),.pu (.bl f),.pu (.bl g),.no,.no]=.ok (.bl false):=by
  cases f with
  |false=>rfl
  |true=>
   have e:=Q5 (m1 rfl) (r:=a7 (ae 4)) (ix:=[5]) (W:=[.pu S,.pu (aD one),.pu (aD oth),.pu B,.pu (.lst (R1.map tI)),.pu (.lst (R2.map tI)),.pu (.bl true),.pu (.bl g),.no,.no]) (v:=.pu (.lst (R2.map tI))) (by simp) l1 (λd=>rfl) rfl;simp[e,Q6]
 have c2:ie (cv (ae 7)) (g2 fx (b9 (a7 (ae 5)) [4] (g2 b0 (ae 0) (ae 1)) (a6 0)) (fm ah)) [.pu S,.pu (aD one),.pu (aD oth),.pu B,.pu (.lst (R1.map tI)),.pu (.lst (R2.map tI)),.pu (.bl f),.pu (.bl g),.no,.no]=.ok (.bl false):=by
  cases g with
  |false=>rfl
  |true=>
   have e:=Q5 (m2 rfl) (r:=a7 (ae 5)) (ix:=[4]) (W:=[.pu S,.pu (aD one),.pu (aD oth),.pu B,.pu (.lst (R1.map tI)),.pu (.lst (R2.map tI)),.pu (.bl f),.pu (.bl true),.no,.no]) (v:=.pu (.lst (R1.map tI))) (by simp) l2 (λd=>rfl) rfl;simp[e,Q6]
 have s1:bx 1 (ai ak (aa (ae 0) (aa (gC (.int 0)) (aa (gC (.int 3)) ah)))) [.pu S,.no,.no,.no,.no,.no,.no,.no,.no,.no]=.nx [.pu S,.pu (aD one),.no,.no,.no,.no,.no,.no,.no,.no]:=by simp[e1]
 have s2:bx 2 (ai ot (aa (ae 0) (aa (ae 1) ah))) [.pu S,.pu (aD one),.no,.no,.no,.no,.no,.no,.no,.no]=.nx [.pu S,.pu (aD one),.pu (aD oth),.no,.no,.no,.no,.no,.no,.no]:=by simp[e2]
 have s3:bx 3 (ai bk (aa (ae 0) (aa (gC (.int 100)) (aa (gC (.int 9)) ah)))) [.pu S,.pu (aD one),.pu (aD oth),.no,.no,.no,.no,.no,.no,.no]=.nx [.pu S,.pu (aD one),.pu (aD oth),.pu B,.no,.no,.no,.no,.no,.no]:=by simp[e3]
 have s4:bx 4 (ai an (aa (ae 1) (aa (ae 3) ah))) [.pu S,.pu (aD one),.pu (aD oth),.pu B,.no,.no,.no,.no,.no,.no]=.nx [.pu S,.pu (aD one),.pu (aD oth),.pu B,.pu (.lst (R1.map tI)),.no,.no,.no,.no,.no]:=by simp[e4]
 have s5:bx 5 (ai an (aa (ae 2) (aa (ae 3) ah))) [.pu S,.pu (aD one),.pu (aD oth),.pu B,.pu (.lst (R1.map tI)),.no,.no,.no,.no,.no]=.nx [.pu S,.pu (aD one),.pu (aD oth),.pu B,.pu (.lst (R1.map tI)),.pu (.lst (R2.map tI)),.no,.no,.no,.no]:=by simp[e5]
 have s6:fz [1,2] (bx 6 (g2 dj (g2 aj (ai wi (aa (a6 1) (aa (a6 2) ah))) (gC (.int 0))) (gC (.str "way")))) [.pu S,.pu (aD one),.pu (aD oth),.pu B,.pu (.lst (R1.map tI)),.pu (.lst (R2.map tI)),.no,.no,.no,.no]=.nx [.pu S,.pu (aD one),.pu (aD oth),.pu B,.pu (.lst (R1.map tI)),.pu (.lst (R2.map tI)),.pu (.bl f),.no,.no,.no]:=by simp[e6,i6,q6]
 have s7:fz [2,1] (bx 7 (g2 dj (g2 aj (ai wi (aa (a6 2) (aa (a6 1) ah))) (gC (.int 0))) (gC (.str "way")))) [.pu S,.pu (aD one),.pu (aD oth),.pu B,.pu (.lst (R1.map tI)),.pu (.lst (R2.map tI)),.pu (.bl f),.no,.no,.no]=.nx [.pu S,.pu (aD one),.pu (aD oth),.pu B,.pu (.lst (R1.map tI)),.pu (.lst (R2.map tI)),.pu (.bl f),.pu (.bl g),.no,.no]:=by simp[e7,i7,q7]
 have s8:fz [1,2] (bx 8 (ai al (aa (a6 1) (aa (a6 2) ah)))) [.pu S,.pu (aD one),.pu (aD oth),.pu B,.pu (.lst (R1.map tI)),.pu (.lst (R2.map tI)),.pu (.bl f),.pu (.bl g),.no,.no]=.nx [.pu S,.pu (aD one),.pu (aD oth),.pu B,.pu (.lst (R1.map tI)),.pu (.lst (R2.map tI)),.pu (.bl f),.pu (.bl g),.pu (.bl (f && g)),.no]:=by simp[e8]
 have c3:vc (gc (cv (g1 (ba "bool") (ae 8)))) (g2 fx (ae 8) (ie (a6 6) (a6 7))) [.pu S,.pu (aD one),.pu (aD oth),.pu B,.pu (.lst (R1.map tI)),.pu (.lst (R2.map tI)),.pu (.bl f),.pu (.bl g),.pu (.bl (f && g)),.no]=.ok (.bl false):=by
  cases f<;>cases g<;>rfl
 have c4:vc (g2 fo (ai al (aa (a6 1) (aa (a6 1) ah))) (gC (.bl true))) (g2 fx (g2 aj (ai wi (aa (a6 1) (aa (a6 1) ah))) (gC (.int 0))) (gC (.str "way"))) [.pu S,.pu (aD one),.pu (aD oth),.pu B,.pu (.lst (R1.map tI)),.pu (.lst (R2.map tI)),.pu (.bl f),.pu (.bl g),.pu (.bl (f && g)),.no]=.ok (.bl false):=by
  have n1:fo (.bl true) (.bl true)=some (.bl false):=rfl;simp[e9,e10,i10,q10,n1]
 have sl:=Ul (one.2.map At.D) 0;have sl':o9 (.tup (one.2.map At.D)) (some 1) none=some (.tup ((one.2.drop 1).map At.D)):=by rw[nZ];exact sl
 have s9:bx 9 (iu (aa (g2 aj (ae 1) (gC (.int 0))) (aa (M5 (g2 aj (ae 1) (gC (.int 1))) (some (gC (.int 1))) none) ah))) [.pu S,.pu (aD one),.pu (aD oth),.pu B,.pu (.lst (R1.map tI)),.pu (.lst (R2.map tI)),.pu (.bl f),.pu (.bl g),.pu (.bl (f && g)),.no]=.nx [.pu S,.pu (aD one),.pu (aD oth),.pu B,.pu (.lst (R1.map tI)),.pu (.lst (R2.map tI)),.pu (.bl f),.pu (.bl g),.pu (.bl (f && g)),.pu (aD (one.1,one.2.drop 1))]:=by
  simp[aD,c8,M5,HL,sl',-nZ]
 have fin:∀L:Pu.D,ia [L]=.ok (.bl b)->(b=true->∃d x,wi [aD one,L]=.ok d/\aj d (.int 0)=some x/\dj x (.str "way")=some (.bl true))->fz [1,9] (bw (vc (gc (ai ia (aa (ae 9) ah))) (g2 dj (g2 aj (ai wi (aa (a6 1) (aa (a6 9) ah))) (gC (.int 0))) (gC (.str "way"))))) [.pu S,.pu (aD one),.pu (aD oth),.pu B,.pu (.lst (R1.map tI)),.pu (.lst (R2.map tI)),.pu (.bl f),.pu (.bl g),.pu (.bl (f && g)),.pu L]=.rt (.bl true):=by
  intro L e11 e12;cases b with
  |false=>simp[e11]
  |true=>
   obtain⟨d,x,h1,h2,h3⟩:=e12 rfl;simp[e11,h1,h2,h3]
 unfold KO;rw[gy,s1];dsimp only;rw[gy,s2];dsimp only;rw[gy,s3];dsimp only;rw[gy,s4];dsimp only;rw[gy,s5];dsimp only;rw[gy,s6];dsimp only;rw[gy,s7];dsimp only;rw[gy,Fz,c1];simp only[fj,Bs];rw[gy,Fz,c2];simp only[fj,Bs];rw[gy,s8];dsimp only;rw[gy,Fz,c3];simp only[fj,Bs];have s10:fz [1,1,1,1] (i9 (vc (g2 fo (ai al (aa (a6 1) (aa (a6 1) ah))) (gC (.bl true))) (g2 fx (g2 aj (ai wi (aa (a6 1) (aa (a6 1) ah))) (gC (.int 0))) (gC (.str "way")))) (bw (gC (.bl false))) cn) [.pu S,.pu (aD one),.pu (aD oth),.pu B,.pu (.lst (R1.map tI)),.pu (.lst (R2.map tI)),.pu (.bl f),.pu (.bl g),.pu (.bl (f && g)),.no]=.nx [.pu S,.pu (aD one),.pu (aD oth),.pu B,.pu (.lst (R1.map tI)),.pu (.lst (R2.map tI)),.pu (.bl f),.pu (.bl g),.pu (.bl (f && g)),.no]:=by
  show i9 _ _ _ [.pu S,.pu (aD one),.pu (aD oth),.pu B,.pu (.lst (R1.map tI)),.pu (.lst (R2.map tI)),.pu (.bl f),.pu (.bl g),.pu (.bl (f && g)),.no]=_;rw[Fz,c4];rfl
 rw[gy,s10];dsimp only;rw[gy,s9];dsimp only;exact fin _ e11 e12
def As(n:Nat){F:List At}(A:QA a)(B:Bk F):∃R:List (List Int),af (tab (n+3)) gm [aD a,.lst (F.map At.D)]=.ok (.lst (R.map tI))/\(∀r,r∈R↔UZ a F r)/\R.length<=1000:=Na n A B
def CO(n:Nat)(ns:List Int):af (tab (n+12)) ug [kf ns]=.ok (.bl true):=by
 rw[QU,W4];obtain⟨hd,as,D,e1⟩:=F4 (n+6) ns 0 3 (by decide) (by decide) (by decide);obtain⟨oth,A2,ho,e2⟩:=Xu (n+5) ns D;obtain⟨F,BF,e3⟩:=AI (n+8) ns;have A1:QA (hd,as):=Da D;obtain⟨R1,e4,r1,k1⟩:=As (n+8) A1 BF;obtain⟨R2,e5,r2,k2⟩:=As (n+8) A2 BF;obtain⟨d6,x6,e6,i6,q6,_⟩:=rh (n+1) A1.toGA A2.toGA A1.ask A2.ask ho.symm;obtain⟨d7,x7,e7,i7,q7,_⟩:=rh (n+1) A2.toGA A1.toGA A2.ask A1.ask ho;obtain⟨d10,x10,e10,i10,_,q10⟩:=rh (n+1) A1.toGA A1.toGA A1.ask A1.ask rfl;have e8:=Ka n A1 A2 ho.symm;have e9:=Ka n A1 A1 rfl;have self:(M7 (hd,as) (hd,as)).isSome=true:=Bt (Wk rfl λx hx=>hx);rw[self]at e9 q10;have GL:GA (hd,as.drop 1):=⟨⟨A1.h,λx hx=>A1.g x (iD hx),A1.hl,by have:=A1.al;show(as.drop 1).length<=6;rw[dR];have:as.length<=6:=this;lia⟩,λx hx=>A1.sh x (iD hx)⟩;have e11:=CQ (n+8) GL;refine(congrArg df (CN (one:=(hd,as)) (oth:=oth) A1.al e1 e2 e3 e4 e5 e6 i6 q6 e7 i7 q7 k1 k2 (λhf r hr=>?_) (λhf r hr=>?_) e8 e9 e10 i10 q10 e11 λhb=>?_)).trans rfl
 ·obtain⟨s,hs⟩:=Option.isSome_iff_exists.mp hf;exact(r2 r).mpr (P1 A1 A2 BF (AX hs) ((r1 r).mp hr))
 ·obtain⟨s,hs⟩:=Option.isSome_iff_exists.mp hf;exact(r1 r).mpr (P1 A2 A1 BF (AX hs) ((r2 r).mp hr))
 ·obtain⟨d,x,h1,h2,h3,_⟩:=rh (n+1) A1.toGA GL A1.ask ((rn _).mp hb) rfl;refine⟨d,x,h1,h2,?_⟩;rw[h3,Bt (Wk (a:=(hd,as.drop 1)) (b:=(hd,as)) rfl λx hx=>iD hx)]
def W5(ns:List Int)(hn:ns.length<=63):af (tab 29) ug [.lst (ns.map D.int)]=.ok (.bl true):=CO 17 ns
end LK
end
section
namespace LK
open PySem PySem.Spec PyProof.Rows L2 Pu
def YU(K:bA)(d:DefR):Prop:=∃f oc kV dc pm cd ct od an sl,iF K cY d.x=some (some (.ref f))/\K.lookup f=some ⟨oc,od,.func (eY d.x d.x (ju d.st) (f9 d.st) (br d.st) .none kV dc pm an cd ct),sl⟩/\iQ K cd d.x=true/\dI K (.ref f)=true
def ZQ{K:bA}{d:DefR}{f oc kV dc pm cd ct od an sl}(a:iF K cY d.x=some (some (.ref f)))(l:K.lookup f=some ⟨oc,od,.func (eY d.x d.x (ju d.st) (f9 d.st) (br d.st) .none kV dc pm an cd ct),sl⟩)(c:iQ K cd d.x=true)(k:dI K (.ref f)=true):YU K d:=⟨_,_,_,_,_,_,_,_,_,_,a,l,c,k⟩
def IZ:∀d∈Ik,Ea d=true/\d.lm=false:=by decide+kernel
def PK:∀d∈Ik,Hu d.st d.x:=by
 intro d hd;simp only[Ik,cR,fE,or_false]at hd;rcases hd with rfl|rfl|rfl|rfl|rfl|rfl|rfl|rfl|rfl|rfl|rfl|rfl|rfl|rfl|rfl|rfl|rfl|rfl|rfl|rfl|rfl|rfl|rfl|rfl|rfl|rfl|rfl|rfl|rfl|rfl|rfl|rfl|rfl|rfl|rfl|rfl|rfl
 all_goals (intro _ _ _ _ _ _ us hl;rcases us with _|⟨_,_|⟨_,_|⟨_,_|⟨_,_|_⟩⟩⟩⟩<;>first|rfl|cases hl)
def IC{l:PySem.W.OpenLaw}{w:cF}{K:bA}{h:Heap}{mg:Str->Option aH}{fa:Addr}{n:Nat}{s:FS}(X:K.In h)(G:h.Ns cY mg)(hfa:mg "law"=some (.ref fa))(hl:(tab n).fns "law"=some s)(hm:s.ms=[false])(law:∀ns:List Int,ns.length<=63->s.f [.lst (ns.map D.int)]=.ok (.bl true))
  {t0:Tok}
  {C0:Addr}
  {C1:Addr}
  {C2:Addr}
  (hD:∀d∈Ik,YU K d)
  (hB:∀x∈wo,iF K cY x=some none)
  (s0:iF K cY "LETTERS"=some (some (.str "abcdefghijklmnopqrstuvwxyz" t0)))
  (xa0:iF K cY "AskError"=some (some (.ref C0)))
  (xe0:gK K C0 [.type "ValueError",.type "Exception",.type "BaseException",.type "object"] "ValueError.__new__"=true)
  (xv0:kU K (.ref C0) (.type "ValueError")=some true)
  (xa1:iF K cY "NoAsking"=some (some (.ref C1)))
  (xe1:gK K C1 [.type "ValueError",.type "Exception",.type "BaseException",.type "object"] "ValueError.__new__"=true)
  (xv1:kU K (.ref C1) (.type "ValueError")=some true)
  (xa2:iF K cY "Unlike"=some (some (.ref C2)))
  (xe2:gK K C2 [.type "ValueError",.type "Exception",.type "BaseException",.type "object"] "ValueError.__new__"=true)
  (xv2:kU K (.ref C2) (.type "ValueError")=some true)
  (xp0:eW K (.ref C0) (.ref C0)=some true)
  (xp1:eW K (.ref C1) (.ref C1)=some true)
  (xp2:eW K (.ref C1) (.ref C0)=some true)
  (xp3:eW K (.ref C2) (.ref C2)=some true)
  (xp4:eW K (.ref C2) (.ref C0)=some true):
  ∃fd:jG,(∀(s:aN)(v:aH),BindsTo s fd ⟨[v],[]⟩ [("_law_script",v)])/\∀base:Heap,K.In base->base.Ns cY mg->Bm mg base->FnOk l.prog w K mg base OA n fa fd ["_law_script"] (Rv K):=by
 obtain⟨_,_,kV,dc,pm,cd,ct,_,an,_,a,l,c,k⟩:=hD ug (by simp only[Ik,cR,true_or,or_true]);cases hfa.symm.trans (cV X G a);have hd:∀d∈Ik,DefIn K mg d:=by
  intro d hd;obtain⟨_,_,_,_,_,_,_,_,_,_,a,l,c,k⟩:=hD d hd;exact JP X G (IZ d hd).1 (PK d hd) a l c k (λz=>by rw[(IZ d hd).2]at z;cases z)
 have hs:∀x y,gs x=some y->∃t,mg x=some (.str y t):=by
  intro x y e;unfold gs at e
  by_cases h0:x="LETTERS"
  ·rw[aJ h0]at e;cases e;subst h0;exact⟨_,cV X G s0⟩
  rw[aK h0]at e;cases e
 have hb:∀x∈wo,mg x=none:=λx hx=>PySem.W.mg_none_of X G (hB x hx);have hX:XsIn K mg xs:=by
  refine⟨λx h=>?_,λc y h=>?_,λc h=>?_,λc y h=>?_⟩
  ·simp only[xs,fY,aO,decide_eq_true_eq,Bool.false_eq_true,or_false]at h;rcases h with rfl|rfl|rfl
   ·exact⟨C0,_,_,cV X G xa0,xe0,Pv⟩
   ·exact⟨C1,_,_,cV X G xa1,xe1,Pv⟩
   ·exact⟨C2,_,_,cV X G xa2,xe2,Pv⟩
  ·simp only[xs,fY,aO,decide_eq_true_eq,Bool.false_eq_true,or_false]at h;rcases h with ⟨rfl,rfl⟩|⟨rfl,rfl⟩|⟨rfl,rfl⟩|⟨rfl,rfl⟩|⟨rfl,rfl⟩
   ·exact⟨C0,cV X G xa0,by rw[m6 (cV X G xa0)];exact xp0⟩
   ·exact⟨C1,cV X G xa1,by rw[m6 (cV X G xa1)];exact xp1⟩
   ·exact⟨C0,cV X G xa0,by rw[m6 (cV X G xa1)];exact xp2⟩
   ·exact⟨C2,cV X G xa2,by rw[m6 (cV X G xa2)];exact xp3⟩
   ·exact⟨C0,cV X G xa0,by rw[m6 (cV X G xa2)];exact xp4⟩
  ·simp only[xs,fY,aO,decide_eq_true_eq,Bool.false_eq_true,or_false]at h;rcases h with rfl|rfl|rfl
   ·rw[m6 (cV X G xa0)];show(if pD "ValueError"=true then kU K (.ref C0) (.type "ValueError")else none)=some true;rw[aJ (by decide+kernel)];exact xv0
   ·rw[m6 (cV X G xa1)];show(if pD "ValueError"=true then kU K (.ref C1) (.type "ValueError")else none)=some true;rw[aJ (by decide+kernel)];exact xv1
   ·rw[m6 (cV X G xa2)];show(if pD "ValueError"=true then kU K (.ref C2) (.type "ValueError")else none)=some true;rw[aJ (by decide+kernel)];exact xv2
  ·simp only[xs,fY,aO,decide_eq_true_eq,Bool.false_eq_true,or_false]at h
 refine⟨eY ug.x ug.x (ju ug.st) (f9 ug.st) (br ug.st) .none kV dc pm an cd ct,λs v=>.of_eq rfl,λbase kb _ bm=>?_⟩;exact KN KL rfl a l c k kb bm hd hs hb hX hl hm law
end LK
namespace PySem.W.Fast
def tw602236886820922326:Nat:=0
def tw17663249098414739304:Nat:=0
def tw6806751191578386555:Nat:=0
def tw13965753425389929572:Nat:=0
def tw7948329207888662812:Nat:=0
def tw11963708489107582012:Nat:=0
def tw8175074660121181105:Nat:=0
def tw8721858705363193446:Nat:=0
def tw11111645009639430678:Nat:=0
def tw16826155000246381061:Nat:=0
def tw16503212036684960474:Nat:=0
def tw11179245840252036464:Nat:=0
def tw9811022687285320732:Nat:=0
def tw6075001641119659235:Nat:=0
def tw17840946478614038405:Nat:=0
def tw2331868190037045463:Nat:=0
def tw392789059087730400:Nat:=0
def tw196568630013954702:Nat:=0
def tw3934678153020611858:Nat:=0
def tw58028126179683424:Nat:=0
def tw7264271522184730196:Nat:=0
def tw4041803660021814098:Nat:=0
def tw17253846011559883201:Nat:=0
def tw13246112804104594973:Nat:=0
def tw12789342424469573733:Nat:=0
def tw7583044618731955083:Nat:=0
def tw8951436962247235006:Nat:=0
def tw11420981645990499029:Nat:=0
def tw2784843272150672108:Nat:=0
def tw16714856754788305799:Nat:=0
def tw6478954028486083836:Nat:=0
def tw465272449287869965:Nat:=0
def tw14562689989636367706:Nat:=0
def tw16732710169993810004:Nat:=0
def tw13627686503644495543:Nat:=0
def tw1949256909151917921:Nat:=0
def tw11577887099570748162:Nat:=0
def tw12761106461276253818:Nat:=0
def tw12417490586849261341:Nat:=0
def tw17604519914720149943:Nat:=0
def tw10698399972473673194:Nat:=0
def tw9968636993311284918:Nat:=0
def tw10224973284000330741:Nat:=0
def tw16037815627727008490:Nat:=0
def tw17587353854071472989:Nat:=0
def tw14745897638501836985:Nat:=0
def tw9177199486613626802:Nat:=0
def tw14249142261434383655:Nat:=0
def tw9244578938089325208:Nat:=0
def tw6853809140559250097:Nat:=0
def tw16007513592495309368:Nat:=0
def tw15420495475127497589:Nat:=0
def tw447480026439462935:Nat:=0
def tw6747933291891370064:Nat:=0
def tw14256760674377993323:Nat:=0
def tw3990853805560055883:Nat:=0
def tw15390873114709538157:Nat:=0
def tw13320901114638600936:Nat:=0
def tw5934441652799260615:Nat:=0
def tw3759002084636475750:Nat:=0
def tw9424467561770604638:Nat:=0
def tw5733001682274379965:Nat:=0
def tw4004190687686857673:Nat:=0
def tw2183656528221541538:Nat:=0
def tw14683017563998444196:Nat:=0
def tw12842501739884935266:Nat:=0
def tw6247424916518262993:Nat:=0
def tw3882013284187344158:Nat:=0
def tw3609406471575067631:Nat:=0
def tw12172947634888830104:Nat:=0
def tw681691079569967505:Nat:=0
def tw6896683664373969879:Nat:=0
def tw4912915998808643091:Nat:=0
def tw5491833638170391910:Nat:=0
def tw7054047026579646429:Nat:=0
def tw3868392549691730057:Nat:=0
def tw8114948530486473062:Nat:=0
def tw2897193392229052299:Nat:=0
def tw6134855511791723073:Nat:=0
def tw3535975404896809308:Nat:=0
def tw9510003978800722610:Nat:=0
def tw16860574228309735279:Nat:=0
def tw6078863060324955793:Nat:=0
def tw7975284364593145865:Nat:=0
def tw9423774838229238622:Nat:=0
def tw17417189237225470395:Nat:=0
def tw16857199141233981756:Nat:=0
def tw14326758819263873172:Nat:=0
def tw2418995149836057221:Nat:=0
def tw8038905470518652048:Nat:=0
def tw12205124159837375663:Nat:=0
def tw12034815101945900659:Nat:=0
def tw12057023731259408714:Nat:=0
def tw10369206727408937099:Nat:=0
def tw11869376910838401:Nat:=0
def tw14304196880155868857:Nat:=0
def tw12720500257549440531:Nat:=0
end PySem.W.Fast
open PySem PySem.W PyProof.Rows
set_option maxRecDepth 100000 in
set_option maxHeartbeats 0 in
theorem PySem.Challenge.cw_askbook_k05_whole_every_book_holds : PySem.Challenge.rw_askbook_k05_whole_every_book.Holds := by
 w_on;o_law;k_head;(case hw=>w_witness2)
 k_fill
 refine Pu.TK (l:=PySem.Challenge.rw_askbook_k05_whole_every_book) (k:=30) rfl rfl ⟨rfl,by decide,by decide⟩ (by decide) (λw h Y=>PySem.W.kIn_of Y) ?hNt ?hTb ?hFn
 case hNt=>intro w;kernel_rfl
 case hTb=>intro w h Y p hp;cases hp
 case hFn=>
  intro w mg fa h KX G hmg
  refine' LK.IC (n:=30) KX G hmg (Pu.Zj 29 rfl) rfl LK.W5 ?hD ?hB ?s0 ?xa0 ?xe0 ?xv0 ?xa1 ?xe1 ?xv1 ?xa2 ?xe2 ?xv2 ?xp0 ?xp1 ?xp2 ?xp3 ?xp4
  case hD=>
   intro d hd
   simp only[LK.Ik,List.mem_cons,List.not_mem_nil,or_false]at hd
   rcases hd with rfl|rfl|rfl|rfl|rfl|rfl|rfl|rfl|rfl|rfl|rfl|rfl|rfl|rfl|rfl|rfl|rfl|rfl|rfl|rfl|rfl|rfl|rfl|rfl|rfl|rfl|rfl|rfl|rfl|rfl|rfl|rfl|rfl|rfl|rfl|rfl|rfl
   all_goals (refine' LK.ZQ ?a ?l ?c ?k;(case a=>k_is);(case l=>k_is);(case c=>k_is);(case k=>k_is))
  case hB=>
   intro x hx
   simp only[Pu.wo,List.mem_cons,List.not_mem_nil,or_false]at hx
   rcases hx with rfl|rfl|rfl|rfl|rfl|rfl|rfl|rfl|rfl|rfl|rfl|rfl|rfl|rfl|rfl|rfl|rfl|rfl|rfl|rfl
   all_goals k_is
  (case s0=>k_is)
  (case xa0=>k_is)
  (case xe0=>k_exc)
  (case xv0=>k_is)
  (case xa1=>k_is)
  (case xe1=>k_exc)
  (case xv1=>k_is)
  (case xa2=>k_is)
  (case xe2=>k_exc)
  (case xv2=>k_is)
  (case xp0=>kts_exm)
  (case xp1=>kts_exm)
  (case xp2=>kts_exm)
  (case xp3=>kts_exm)
  (case xp4=>kts_exm)
end
